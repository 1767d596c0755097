import PyProof.Rows.All
import KE.KDictOf
import KE.KFromBytes
import KE.KItem
import KE.KRevIter
import KE.KTryMore
import KE.KUnpack
import PySem.Challenge.RW_fencefield_k15_whole_least_triangles
set_option Elab.async false
set_option compiler.extract_closed false
set_option linter.all false
set_option maxRecDepth 100000
open Array renaming getD_eq_getD_getElem?->ZC,getElem?_eq_getElem->ZX,length_toList->ZY,getElem?_toList->Yx,forIn_toList->YM,getElem?_eq_some_iff->X5,getElem?_eq_none->Xk,getElem?_push->Wa,size_setIfInBounds->WW,getElem?_extract->Vx,replicate->Vn,append_assoc->VW,size_push->Ud,getD->UH,size_map->UI,toList->Ta
open Bool renaming false_eq_true->Zw,false_ne_true->Zs,and_eq_true->Zc,eq_iff_iff->ZP,noConfusion->ZR,not_eq_true'->Ym,not_true->Yk,eq_false_iff->Yc,or_eq_true->Xz,and_true->XX,not_false->W6,or_eq_false_iff->Wg,and_false->WJ,and_eq_true_iff->VF,or_false->VR,or_true->Uu,false_and->UB
open Classical renaming byContradiction->Zz,not_forall->S8
open ForInStep renaming yield->YU
open List renaming getD_eq_getElem?_getD->Z2,getElem?_eq_getElem->Z3,range->Z4,length_append->Z5,length_map->Z7,mem_cons_of_mem->Z8,size_toArray->Z9,mem_cons->Zx,mem_range->Zt,not_mem_nil->Zr,mem_cons_self->Zq,length_drop->Zp,take_append_drop->Zk,getElem?_map->Zj,getElem?_eq_some_iff->Zh,mem_singleton->Zg,append_assoc->Zf,length_cons->Zd,mem_append_right->Zb,length_take->Za,length_reverse->ZA,mem_filter->ZG,mem_append->ZH,map_cons->ZI,append_nil->ZJ,map_append->ZL,getElem?_eq_none->ZS,getElem?_append_left->ZW,lookup_cons->Y1,length_range->Y2,nodup_cons->Y4,all_eq_true->Y5,nil_append->Y6,mem_of_getElem?->Y8,reverse_cons->Y9,length_dropLast->Y_,getElem?_toArray->Yw,getElem_of_mem->Yv,mem_map->Yu,getElem?_append_right->Yt,mem_of_find?_eq_some->Yq,length_singleton->Yn,map_map->Yl,eq_nil_of_length_eq_zero->Yd,getElem?_take_of_lt->YA,any_eq_true->YD,forIn_cons->YJ,eraseIdx_zero->YN,map_reverse->YO,mem_of_getLast?->YS,length_nil->YV,getElem?_range->YY,reverse_append->YZ,dropLast_eq_take->X7,drop_eq_getElem_cons->X9,getElem?_set_ne->Xy,length->Xx,filterMap_cons->Xr,getElem?_replicate->Xq,cons_append->Xn,mem_filterMap->Xm,getElem?_drop->Xi,range_succ->Xg,getElem?_reverse->XB,ext_getElem?->XF,mem_append_left->XG,nodup_nil->XI,getElem_mem->XN,filter_cons->XO,filter_append->XZ,range'->W1,getElem?_set_self->W3,map_nil->W4,forIn_nil->W7,take_of_length_le->W9,eraseIdxIfInBounds_toArray->W_,length_replicate->Wz,length_filter_le->Wv,range'_succ->Wr,ext_getElem->Wq,length_tail->Wo,mem_reverse->Wn,range_eq_range'->Wh,reverse_reverse->Wf,filter_map->Wc,map_congr_left->WA,filter_eq_self->WB,replicate->WH,nodup_append->WU,getElem?_cons_succ->V9,reverse_singleton->Vt,range_succ_eq_map->Vs,of_mem_zip->Vq,find?_some->Vo,length_set->Vm,find?_cons->Vk,filter_nil->Vj,countP_singleton->Vh,drop_zero->Va,mem_of_mem_take->VA,mem_of_mem_drop->VB,mem_iff_getElem->VC,getElem?_of_mem->VD,take->VI,length_pos_iff->VN,flatMap_append->VO,drop_one->VS,find?_eq_none->U0,countP_append->U1,getElem_range->U4,any_eq_false->U6,reverse_nil->Ul,getElem_map->Uk,lookup->Uh,filter->Ug,any_map->TK
open List.Sublist renaming eq_of_length->T8
open List.cons renaming injEq->Xd
open Option renaming isSome_iff_exists->XV,map_eq_some_iff->W5,getD_none->Uo
open Option.some renaming inj->Ze
open Or renaming inl->ZQ,inr->TB
open Prod renaming ext->Yy,snd->WL,fst->Vb
open Prod.mk renaming injEq->Wl
open PyProof.Rows renaming boot_isinstance->ZM,callWith_type1->ZZ,boot_list->Yi,boot_abs->YL,AllBare->Wm,subscriptTail_builtinR->Vz,callWith_builtin1->Uq,IntsAre->Uc,boot_tuple->Tc,floordiv_int->TC,boot_bool->TJ,boot_min->TN,boot_max->TQ,boot_set->TR,boot_sum->TU,boot_int->TV,boot_all->TW,boot_any->TX,envOfC->So
open PyProof.Rows.F renaming plain_set_update_loop->YX,entry_set_update_loop->XS
open PySem renaming wpAny_bind->Z0,wpAny_pure->Z6,Program->Zy,wpAny->Zv,starEach->Zn,World->Zm,FuncData->ZD,Heap->ZE,boot_len->ZF,Around->ZT,mainGlobals->ZV,IsTupleKey->Y0,wpAny_mono->Y3,mem_of_lookup->Yo,SetTable->Yh,wpAny_truthy_bool->Ye,wpAny_Call_Name_kw->YC,intKind->YE,wpAny_holding->YF,wpAny_specialOf->YI,wpAny_typeNameOfWhole_keyiter->YT,wpAny_call_entry->X3,wpAny_seqItems->X4,IsPair->X8,wpAny_passesOwn->X_,wpAny_typeNameOf_keyiter->Xs,wpAny_isInstance->Xp,wpAny_callSpecial?_slot->Xo,wpAny_execs_nil->Xh,codeAny_builtin->Xe,rawInt->Xb,builtinLookup_eq_fast->Xa,wpAny_pyIter_list->XC,wpAny_setState_of->XD,codeAny->XJ,codeAny_mono->XM,Scope->XT,NameKind->XU,wpAny_updateSeq->XY,DictEntry->W0,wpAny_newObj_type->W8,isSubtype_tuple_tuple->Ww,wpAny_execs_cons->Wu,wpAny_forIn_list->Wt,codeAny_call_builtin->Wj,wpAny_field->Wi,typeLookup_type->We,wpAny_Tuple_spliced->Wb,GenState->WD,wpAny_eqBool_tuple->WK,wpAny_pyHash_tuple->WM,wpAny_tupleItemsOf->WN,sizeLine_eq->WQ,Builtin->WS,wpAny_dictEntries->WT,wpAny_loadPart_at->WV,plainId_quiet->WX,wpAny_attempt->WZ,wpAny_comprehension_free->V0,ZipApart->V7,wpAny_nextOf_list_item->Vv,wpAny_dictEpoch->Vl,wpAny_isTrue_Compare1->Vi,wpAny_eqIsQuiet_tuple->Vg,wpAny_isOneOf_keyiter->Ve,Result->VX,call_meets->VZ,wpAny_assign_Name->U5,BindsTo->U9,wpAny_typeOf->Uy,wpAny_storeSet_of->Ux,wpAny_pyIter_enum->Uv,tupleKind->Us,CmpOp->Uj,wpAny_of_eq->Ui,wpAny_Name->Ub,wpAny_Compare1->Ua,wpAny_Expr_any->UA,wpAny_call->UD,Params->UE,call->UF,callType_codes->UJ,isSubtype_stop->UK,wpAny_rule->UL,wpAny_fieldsOf->UO,wpAny_setField->UP,intBits_le_64->T9,evalPart_none->To,call_list_seq->Tm,code_list_new->Ti,wpAny_standAt->Th,Model->Tf,Within->Tb,Keyword->TD,ExcBaseFacts->TL,IsRangeIter->TY,seqIndex_of->TZ,Moved->S6,wpAny_letGo->S7
open PySem.Around renaming under_plainId->XH
open PySem.AutoSeq1 renaming list_extend_list_list_0->U_
open PySem.Builtin.Dict renaming showsAll->Vf,dictSlotNone->T7
open PySem.Builtin.Dict_items renaming ownsTuple->Wd
open PySem.Builtin.Frozenset renaming updateFrom->Ue
open PySem.Builtin.Int renaming intBits->VM
open PySem.Builtin.List renaming listExtendWith->Yz,listSameRef->Xw,listItems->Xj,listLengthHint->XE,listTooLong->XW,listUpdate->V4,listTouch->TH
open PySem.Builtin.Range renaming rangeSize->Te
open PySem.Builtin.SmallTypes renaming ownedTupleIsFree->YB,nextOf->XQ
open PySem.Builtin.Tuple renaming tupleHashOf->Yg,tupleItemsOf->UN
open PySem.Calls renaming Name_function_global->WE,spliced_cons->WG,spliced_nil->WR,callWith_builtin->Vy,evalArgs_plain->Vc
open PySem.Code renaming quiet_builtin->U2
open PySem.Data renaming cls->UG
open PySem.EqMixed renaming eq_bool_str->UX,eq_str_bool->UY,ne_bool_str->T5,ne_str_bool->T6,eq_int_str->Tx,eq_str_int->Tv,ne_int_str->Tr,ne_str_int->Tp
open PySem.EqNone renaming eq_none_none->UU,eq_none_bool->UV,eq_bool_none->UW,ne_none_none->UZ,ne_none_bool->T0,ne_bool_none->T4,eq_none_int->T_,eq_none_str->Tz,eq_int_none->Ty,eq_str_none->Tw,ne_none_int->Tu,ne_none_str->Tt,ne_int_none->Ts,ne_str_none->Tq
open PySem.F renaming plainAttrs_list->Yr,plain_extend_loop->YK,slot_list_append->Xv,type_list_append->Xu,slot_zip_next->XA,slot_list_pop->Wy,type_list_pop->Wx,entry_extend_loop->WO,args_list_init_2->WY,typeCall_list_1->V5,entry_list_init->V6,args_zip_next_1->V8,entry_zip_next->Vu,called_list->VJ
open PySem.Heap renaming get?_push_of_some->Z_,lt_size->Zu,get?_push_size->Zl,get?_update_self->Yb,get?_update_other->YH,size_push->YR,SameBut->X0,size_update->Ws,FlyingW->WC,MadeExcOf->UQ
open PySem.Heap.SameBut renaming update->XR,refl->Uw
open PySem.MeetsSeq renaming list_pop_last->TF,list_pop_at->S5
open PySem.NameKind renaming free->Yj,cell->Xc
open PySem.Obj renaming mapSeq->Ys,putSet->Vw,data_mapFields->U3,mapFields->Tg
open PySem.PassesOwn renaming never->ZU
open PySem.SeqAt.EqAt renaming int_int->Xl,int_str->VT,str_int->VU,same->Uf,none_bool->S0,bool_none->S3,bool_bool->S4,none_int->S_,none_str->Sz,bool_int->Sy,bool_str->Sx,int_none->Sw,int_bool->Sv,str_none->Su,str_bool->Ss
open PySem.SeqAt.RcNeAt renaming lists_lengths->UM,tuples->Sq
open PySem.SetTable renaming tooFull->V3,slot->Tk,fill->Tj,Probe->Td,sameMemory->Sr
open PySem.Str renaming ofString->ZN
open PySem.W renaming Frag->Z1,mg_none_of->ZB,kitOne->Y7,kia_one->Yp,keepIn->YG,mg_of->YQ,fnOf->X1,nsIn->X2,hideAll_get->W2,codeIn->WI,methodObj->WP,cellsFrom_some->V_,instObj->Vr,OpenLaw->Vp,lookIn->Vd,kitAny->VE,recOk->VP,callWith_K->VY,kitx_list->U7,kitx_dict->U8,xlAt->Uz,looks_findIn->Ut,plainGet->Ur,openGood->Um,findIn->UC,funFrames_hide->UR,exmOne->UT,WalkO->Tl,hideAll_none->TM,looks_mroIn->S9
open PySem.W.Hook renaming obs->V1,val->V2
open PySem.W.Looks renaming «at»->US
open PySem.W.RowW renaming records->Wk
open Sum renaming inl->VG,inr->VH
open True renaming intro->WF
theorem Zo:type_of% @decide_eq_true:=@decide_eq_true
theorem Zi:type_of% @of_decide_eq_true:=@of_decide_eq_true
theorem ZK.{u0}:type_of% @if_false.{u0}:=@if_false
theorem ZO:type_of% @decide_eq_false:=@decide_eq_false
theorem YW.{u0}:type_of% @beq_eq_false_iff_ne.{u0}:=@beq_eq_false_iff_ne
theorem X6.{u0}:type_of% @if_true.{u0}:=@if_true
section
namespace L2
open PySem PySem.Spec PyProof.Rows
noncomputable abbrev Key:=Sum Int Str
noncomputable def km:Key->Value->Bool
 | .inl k,v=>Value.isInt k v
 | .inr x,v=>Value.isStrOf x v
noncomputable def keyH(w:Zm):Key->Int
 | .inl k=>hashInt k
 | .inr x=>hashStr w x
theorem cu:∀{k:Key} {v:Value},km k v=true->(∃i t,k=VG i/\v=Value.int i t)\/(∃x t,k=VH x/\v=Value.str x t)
 | .inl i,v,h=>by
  obtain⟨t,e⟩:=Value.isInt_shape (k:=i) (v:=v) h;exact .inl ⟨i,t,rfl,e⟩
 | .inr x,v,h=>by
  obtain⟨t,e⟩:=Value.isStrOf_shape (x:=x) (v:=v) h;exact .inr ⟨x,t,rfl,e⟩
theorem vo(i:Int)(t:Tok):km (.inl i) (.int i t)=true:=by simp[km,Value.isInt]
theorem wg(x:Str)(t:Tok):km (.inr x) (.str x t)=true:=by simp[km,Value.isStrOf]
theorem Ba(a b:Int):decide ((VG a:Key)=VG b)=(a==b):=by
 by_cases e:a=b
 ·subst e;simp
 ·have h:¬(VG a:Key)=VG b:=fun q=>e (Sum.inl.inj q);rw[ZO h];exact (YW.mpr e).symm
theorem By(a b:Str):decide ((VH a:Key)=VH b)=decide (a=b):=by
 by_cases e:a=b
 ·subst e;simp
 ·have h:¬(VH a:Key)=VH b:=fun q=>e (Sum.inr.inj q);rw[ZO h,ZO e]
theorem BW(a:Int)(b:Str):decide ((VG a:Key)=VH b)=false:=ZO (fun q=>nomatch q)
theorem BO(a:Str)(b:Int):decide ((VH a:Key)=VG b)=false:=ZO (fun q=>nomatch q)
noncomputable def bR(prog:Zy)(w:Zm):PySem.KeyKind prog w Key where
 is:=km
 hash:=keyH w
 inj:=fun v a b ha hb=>by
  rcases cu ha with ⟨i,t,rfl,rfl⟩|⟨x,t,rfl,rfl⟩
  ·rcases cu hb with ⟨j,u,rfl,e⟩|⟨y,u,rfl,e⟩
   ·injection e with e1 _;rw[e1]
   ·exact nomatch e
  ·rcases cu hb with ⟨j,u,rfl,e⟩|⟨y,u,rfl,e⟩
   ·exact nomatch e
   ·injection e with e1 _;rw[e1]
 byValue:=fun k v h=>by
  rcases cu h with ⟨i,t,rfl,rfl⟩|⟨x,t,rfl,rfl⟩<;>rfl
 pyHash:=fun hv h=>by
  rcases cu hv with ⟨i,t,rfl,rfl⟩|⟨x,t,rfl,rfl⟩
  ·exact wpAny_pyHash_int h
  ·exact wpAny_pyHash_str h
 eqBool:=fun hu hv h=>by
  rcases cu hu with ⟨i,t,rfl,rfl⟩|⟨x,t,rfl,rfl⟩
  ·rcases cu hv with ⟨j,u,rfl,rfl⟩|⟨y,u,rfl,rfl⟩
   ·rw[Ba]at h;exact wpAny_eqBool_int h
   ·rw[BW]at h;exact VT i t y u _ _ _ _ h
  ·rcases cu hv with ⟨j,u,rfl,rfl⟩|⟨y,u,rfl,rfl⟩
   ·rw[BO]at h;exact VU x t j u _ _ _ _ h
   ·rw[By]at h;exact wpAny_eqBool_str h
 «strs»:=fun k x t v h=>by
  rcases cu h with ⟨i,u,rfl,e⟩|⟨y,u,rfl,e⟩
  ·exact nomatch e
  ·injection e with e1 _
   subst e1;cases v<;>rfl
theorem rm(prog:Zy)(w:Zm)(i:Int)(t:Tok):(bR prog w).is (.inl i) (.int i t)=true:=vo i t
theorem rn(prog:Zy)(w:Zm)(x:Str)(t:Tok):(bR prog w).is (.inr x) (.str x t)=true:=wg x t
end L2
namespace L2
open PySem PySem.Spec PyProof.Rows
inductive V where
 |non|bl (b:Bool)|int (i:Int)|str (x:Str)|byt (b:Array UInt8)|flt (b:UInt64)|ref (a:Addr)|ty (n:String)
 deriving DecidableEq
noncomputable def RelV:V->Value->Prop
 | .non,u=>u=Value.none
 | .bl b,u=>u=Value.bool b
 | .int i,u=>∃t,u=Value.int i t
 | .str x,u=>∃t,u=Value.str x t
 | .byt b,u=>∃t,u=Value.bytes b t
 | .flt b,u=>∃t,u=Value.float b t
 | .ref a,u=>u=Value.ref a
 | .ty n,u=>u=Value.type n
noncomputable abbrev aJ:List V->List Value->Prop:=Paired RelV
theorem aJ.length{xs:List V}{us:List Value}(r:aJ xs us):xs.length=us.length:=Paired.length r
theorem aJ.get:∀{xs:List V} {us:List Value} {i:Nat} {x:V},aJ xs us->xs[i]?=some x->∃u,us[i]?=some u/\RelV x u
 |_,_,_,_,.nil,e=>by simp at e
 |_,_,0,_,.cons r _,e=>by simp at e;subst e;exact⟨_,rfl,r⟩
 |_,_,i+1,x,.cons _ t,e=>by
  obtain⟨u,h1,h2⟩:=aJ.get (i:=i) (x:=x) t (by simpa using e)
  exact⟨u,by simpa using h1,h2⟩
theorem aJ.append:∀{xs ys:List V} {us ws:List Value},aJ xs us->aJ ys ws->aJ (xs++ys) (us++ws)
 |_,_,_,_,.nil,s=>s
 |_,_,_,_,.cons r t,s=>.cons r (aJ.append t s)
theorem aJ.take:∀{xs:List V} {us:List Value} (n:Nat),aJ xs us->aJ (xs.take n) (us.take n)
 |_,_,0,_=>.nil
 |_,_,_+1,.nil=>.nil
 |_,_,n+1,.cons r t=>.cons r (aJ.take n t)
theorem aJ.drop:∀{xs:List V} {us:List Value} (n:Nat),aJ xs us->aJ (xs.drop n) (us.drop n)
 |_,_,0,r=>r
 |_,_,_+1,.nil=>.nil
 |_,_,n+1,.cons _ t=>aJ.drop n t
noncomputable def xJ:Option V->Option Value->Prop
 |some v,some u=>RelV v u
 |none,none=>True
 |_,_=>False
noncomputable def KV{κ:Type}:List (κ×V)->List (κ×Value)->Prop:=Paired fun (p:κ×V) (q:κ×Value)=>p.1=q.1/\RelV p.2 q.2
noncomputable def kV:Key->V
 | .inl i=>.int i
 | .inr x=>.str x
inductive HO where
 |lst (xs:List V)
 |tup (xs:List V)
 |dK (CY:List (Key×V))|dT (CY:List (List Key×V))
 |set (S:Int->Bool) (n:Nat)
 |ins (C dx:Addr) (fs:List (Str×V))
 |own (x:Addr)
 |xd (fs:List (Str×V))
 |met (f x:Addr)
 |rng (lo hi:Int)
 |frz (o:Obj) (u:HO)
 |tbl (ps:Array Value)
 |ext (φ:ZE->Prop)
noncomputable abbrev Hp:=Addr->Option HO
noncomputable def upd(H:Hp)(a:Addr)(o:HO):Hp:=fun b=>if b=a then some o else H b
theorem ah{H:Hp}{a:Addr}{o:HO}:upd H a o a=some o:=by unfold upd;rw[if_pos rfl]
theorem aG{H:Hp}{a b:Addr}{o:HO}(h:b≠a):upd H a o b=H b:=by unfold upd;rw[if_neg h]
theorem jf{H:Hp}{a b:Addr}{o u:HO}(h:H a=some o)(h':H b=some u)(d:o≠u):a≠b:=by
 intro e;subst e;rw[h]at h';exact d (Ze h')
theorem a8{H:Hp}{a b:Addr}{o:HO}(h:H a=some o)(h':H b=none):a≠b:=by
 intro e;subst e;rw[h]at h';cases h'
section
variable(P:Zy)(w:Zm)
noncomputable def bh(H:Hp)(h:ZE)(a:Addr):HO->Prop
 | .lst xs=>xs.length<=sizeLine/\∃(f':List Value) (n:Nat),aJ xs f'/\h.get? a=some {cls:=.type "list",data:=.seq f'.toArray n}
 | .tup xs=>xs.length<=sizeLine/\∃f':List Value,aJ xs f'/\IsTup h a f'.toArray
 | .dK CY=>CY.length<=sizeLine/\(a==sysModules)=false/\∃vs,KV CY vs/\h.DictOf (bR P w) a vs
 | .dT CY=>CY.length<=sizeLine/\(a==sysModules)=false/\∃xs:List (List Key×Addr×Value),
   Paired (fun (p:List Key×V) (q:List Key×Addr×Value)=>p.1=q.1/\H q.2.1=some (.tup (p.1.map kV))/\RelV p.2 q.2.2) CY xs/\
   ∃o es ep,h.get? a=some o/\o.ExactDict/\o.data=.dict es ep/\es.toList=xs.map (entryOfKey (Us (bR P w)))/\(xs.map (·.1)).Nodup
 | .set S n=>h.SetOf (YE P w) a S n
 | .ins C dx fs=>H dx=some (.own a)/\fs.length<=1000/\dx≠a/\h.get? a=some (Vr C dx)/\
   ∃mA,h.Ns1 dx mA/\(∀f,xJ (fs.lookup f) (mA f))/\Tb mA (fs.map (·.1))
 | .own _=>∃o,h.get? a=some o
 | .xd fs=>∃mA,h.Ns1 a mA/\∀f,xJ (fs.lookup f) (mA f)
 | .rng lo hi=>∃t u v,h.get? a=some {cls:=.type "range",data:=.fields #[.int lo t,.int hi u,.int 1 v]}
 | .frz o u=>h.get? a=some o/\bh H h a u
 | .tbl ps=>h.get? a=some {cls:=.none,data:=.fields ps}
 | .met f x=>h.get? a=some (WP (.ref f) (.ref x))
 | .ext φ=>φ h/\(∃o,h.get? a=some o)/\∀h1 h2:ZE,φ h1->(∀o,h1.get? a=some o->h2.get? a=some o)->φ h2
noncomputable def HOk(H:Hp)(h:ZE):Prop:=∀a o,H a=some o->bh P w H h a o
end
section
variable{P:Zy}{w:Zm}{H H':Hp}{h h':ZE}{a:Addr}{o:HO}
theorem bh.lt(x:bh P w H h a o):a<h.objs.size:=by
 cases o with
 |lst xs=>obtain⟨_,_,_,_,e⟩:=x;exact Zu e
 |tup xs=>obtain⟨_,_,_,p⟩:=x;exact p.lt
 |dK CY=>obtain⟨_,_,_,_,o,_,_,e,_⟩:=x;exact Zu e
 |dT CY=>obtain⟨_,_,_,_,o,_,_,e,_⟩:=x;exact Zu e
 |set S n=>obtain⟨o,_,_,_,e,_⟩:=x;exact Zu e
 |ins C dx fs=>obtain⟨_,_,_,e,_⟩:=x;exact Zu e
 |own y=>obtain⟨_,e⟩:=x;exact Zu e
 |xd fs=>obtain⟨_,⟨_,_,_,e,_⟩,_⟩:=x;exact Zu e
 |rng lo hi=>obtain⟨_,_,_,e⟩:=x;exact Zu e
 |frz ob u=>obtain⟨e,_⟩:=x;exact Zu e
 |tbl ps=>exact Zu (show h.get? a=some _ from x)
 |met f y=>exact Zu (show h.get? a=some _ from x)
 |ext φ=>obtain⟨_,⟨_,e⟩,_⟩:=x;exact Zu e
theorem Paired.mapP{α β:Type}{F G:α->β->Prop}:∀{l₁:List α} {l₂:List β},Paired F l₁ l₂->(∀a b,F a b->G a b)->Paired G l₁ l₂
 |_,_,.nil,_=>.nil
 |_,_,.cons r t,f=>.cons (f _ _ r) (Paired.mapP t f)
theorem bh.stay(x:bh P w H h a o)(k:∀b u,(b=a\/H b=some (.own a))->h.get? b=some u->h'.get? b=some u)
  (ho:∀b,H b=some (.own a)->H' b=some (.own a))(ht:∀b xs,H b=some (.tup xs)->H' b=some (.tup xs)):bh P w H' h' a o:=by
 induction o with
 |lst xs=>obtain⟨z,f',n,r,e⟩:=x;exact⟨z,f',n,r,k _ _ (.inl rfl) e⟩
 |tup xs=>obtain⟨z,f',r,ob,e,c⟩:=x;exact⟨z,f',r,ob,k _ _ (.inl rfl) e,c⟩
 |dK CY=>obtain⟨z,y,vs,r,ob,es,ep,e,c⟩:=x;exact⟨z,y,vs,r,ob,es,ep,k _ _ (.inl rfl) e,c⟩
 |dT CY=>
  obtain⟨z,y,xs,r,ob,es,ep,e,c⟩:=x;exact⟨z,y,xs,Paired.mapP r fun p q z=>⟨z.1,ht _ _ z.2.1,z.2.2⟩,ob,es,ep,k _ _ (.inl rfl) e,c⟩
 |set S n=>obtain⟨ob,es,ep,t,e,c⟩:=x;exact⟨ob,es,ep,t,k _ _ (.inl rfl) e,c⟩
 |ins C dx fs=>
  obtain⟨d,z,ne,e,mA,⟨od,es,ep,e2,c⟩,r⟩:=x;exact⟨ho _ d,z,ne,k _ _ (.inl rfl) e,mA,⟨od,es,ep,k _ _ (.inr d) e2,c⟩,r⟩
 |own y=>obtain⟨ob,e⟩:=x;exact⟨ob,k _ _ (.inl rfl) e⟩
 |xd fs=>obtain⟨mA,⟨od,es,ep,e,c⟩,r⟩:=x;exact⟨mA,⟨od,es,ep,k _ _ (.inl rfl) e,c⟩,r⟩
 |rng lo hi=>obtain⟨t,u,v,e⟩:=x;exact⟨t,u,v,k _ _ (.inl rfl) e⟩
 |frz ob u ih=>obtain⟨e,q⟩:=x;exact⟨k _ _ (.inl rfl) e,ih q⟩
 |tbl ps=>
  have e:h.get? a=some {cls:=.none,data:=.fields ps}:=x;show h'.get? a=some {cls:=.none,data:=.fields ps};exact k a _ (.inl rfl) e
 |met f y=>
  have e:h.get? a=some (WP (.ref f) (.ref y)):=x;show h'.get? a=some (WP (.ref f) (.ref y));exact k a _ (.inl rfl) e
 |ext φ=>obtain⟨p,⟨o,e⟩,st⟩:=x;exact⟨st _ _ p fun o q=>k _ _ (.inl rfl) q,⟨o,k _ _ (.inl rfl) e⟩,st⟩
theorem HOk.lt(x:HOk P w H h)(e:H a=some o):a<h.objs.size:=(x a o e).lt
theorem HOk.fresh(x:HOk P w H h)(e:h.objs.size<=a):H a=none:=by
 cases q:H a with
 |none=>rfl
 |some u=>exact absurd (Nat.lt_of_lt_of_le (x.lt q) e) (Nat.lt_irrefl _)
theorem HOk.kept(x:HOk P w H h)(k:∀b u,h.get? b=some u->h'.get? b=some u):HOk P w H h':=fun a o e=>
 (x a o e).stay (fun b u _ q=>k b u q) (fun _ q=>q) fun _ _ q=>q
theorem HOk.laid(x:HOk P w H h)(k:∀b u,h.get? b=some u->h'.get? b=some u)(hp:h.objs.size<=a)(new:bh P w (upd H a o) h' a o):HOk P w (upd H a o) h':=fun b u e=>by
 have hn:=x.fresh hp;by_cases hb:b=a
 ·subst hb;rw[ah]at e;cases e;exact new
 ·rw[aG hb]at e;exact (x b u e).stay (fun c v _ q=>k c v q) (fun c q=>by rw[aG (a8 q hn)];exact q) fun c xs q=>by rw[aG (a8 q hn)];exact q
end
noncomputable def Rd(H:Hp)(a:Addr)(u:HO):Prop:=H a=some u\/∃o,H a=some (.frz o u)
theorem Rd.ok{P:Zy}{w:Zm}{H:Hp}{h:ZE}{a:Addr}{u:HO}(r:Rd H a u)(x:HOk P w H h):bh P w H h a u:=by
 rcases r with r|⟨o,r⟩
 ·exact x a u r
 ·obtain⟨_,q⟩:=x a _ r;exact q
noncomputable def Mut:Option HO->Prop
 |some (.lst _)=>True
 |some (.dK _)=>True
 |some (.dT _)=>True
 |some (.set _ _)=>True
 |some (.ins _ _ _)=>True
 |some (.ext _)=>True
 |_=>False
section
variable{P:Zy}{w:Zm}{H:Hp}{h h':ZE}{x e:Addr}{o':HO}
theorem HOk.write(ok:HOk P w H h)(mu:Mut (H x))(he:e=x\/H e=some (.own x))(k:∀b u,b≠e->h.get? b=some u->h'.get? b=some u)(DR:∃u,h'.get? e=some u)
  (new:bh P w (upd H x o') h' x o'):HOk P w (upd H x o') h':=fun b u q=>by
 have nown:∀c y,H c=some (.own y)->c≠x:=fun c y r z=>by subst z;rw[r]at mu;exact mu
 have ntup:∀c xs,H c=some (.tup xs)->c≠x:=fun c xs r z=>by subst z;rw[r]at mu;exact mu
 by_cases hb:b=x
 ·subst hb;rw[ah]at q;cases q;exact new
 ·rw[aG hb]at q;by_cases hbe:b=e
  ·have q':H b=some (.own x):=by
    rcases he with z|z
    ·exact absurd (hbe.trans z) hb
    ·rw[hbe];exact z
   rw[q]at q';cases q';obtain⟨v,hv⟩:=DR;exact⟨v,by rw[hbe];exact hv⟩
  ·refine (ok b u q).stay (fun c v hc r=>k c v ?_ r) (fun c r=>by rw[aG (nown c b r)];exact r) fun c xs r=>by rw[aG (ntup c xs r)];exact r
   rcases hc with rfl|hc
   ·exact hbe
   ·rintro rfl;rcases he with z|z
    ·exact nown c b hc z
    ·rw[hc]at z;cases z;exact hb rfl
end
structure Un(fs ex:List Addr)(H H':Hp)(h h':ZE):Prop where
 keep:∀b o,h.get? b=some o->H b=none->b∉fs->b∉ex->h'.get? b=some o
 slot:∀b o,h.get? b=some o->H b=none->b∈fs->b∉ex->∃sl,h'.get? b=some {o with slots:=sl}
 free:∀b o,h.get? b=some o->H b=none->b∉ex->H' b=none
 there:∀b o,h.get? b=some o->b∉ex->∃o',h'.get? b=some o'
 tups:∀b xs,H b=some (.tup xs)->H' b=some (.tup xs)
 frzs:∀b o u,H b=some (.frz o u)->H' b=some (.frz o u)
 tbls:∀b ps,H b=some (.tbl ps)->∃more,H' b=some (.tbl (ps++more))
section
variable{fs E9 ex ex':List Addr}{H H1 H2:Hp}{h h1 h2 h':ZE}{a x e:Addr}{o:HO}
theorem Un.any(u:Un fs ex H H1 h h1){b:Addr}{ob:Obj}(q:h.get? b=some ob)(n:H b=none)(hx:b∉ex):∃sl,h1.get? b=some {ob with slots:=sl}:=by
 by_cases hb:b∈fs
 ·exact u.slot b ob q n hb hx
 ·exact⟨ob.slots,u.keep b ob q n hb hx⟩
theorem Un.kept(k:∀b u,h.get? b=some u->h'.get? b=some u):Un fs ex H H h h':=
 ⟨fun b ob q _ _ _=>k b ob q,fun b ob q _ _ _=>⟨ob.slots,k b ob q⟩,fun _ _ _ n _=>n,fun b ob q _=>⟨ob,k b ob q⟩,fun _ _ q=>q,fun _ _ _ q=>q,fun _ ps q=>⟨#[],by rw[q];simp⟩⟩
theorem Un.refl:Un fs ex H H h h:=Un.kept fun _ _ q=>q
theorem Un.laid(k:∀b u,h.get? b=some u->h'.get? b=some u)(hp:h.objs.size<=a)(hn:H a=none):Un fs ex H (upd H a o) h h' where
 keep:=fun b u q _ _ _=>k b u q
 slot:=fun b u q _ _ _=>⟨u.slots,k b u q⟩
 free:=fun b u q n _=>by rw[aG (Nat.ne_of_lt (Nat.lt_of_lt_of_le (Zu q) hp))];exact n
 there:=fun b u q _=>⟨u,k b u q⟩
 tups:=fun b xs q=>by rw[aG (a8 q hn)];exact q
 frzs:=fun b u xs q=>by rw[aG (a8 q hn)];exact q
 tbls:=fun b ps q=>⟨#[],by rw[aG (a8 q hn),q];simp⟩
theorem Un.write(mu:Mut (H x))(he:e=x\/H e=some (.own x))(k:∀b u,b≠e->h.get? b=some u->h'.get? b=some u)(DR:∃u,h'.get? e=some u):Un fs ex H (upd H x o) h h':=by
 have hx:∀b,H b=none->b≠x:=fun b n z=>by subst z;rw[n]at mu;exact mu
 have hb:∀b,H b=none->b≠e:=fun b n z=>by
  subst z;rcases he with r|r
  ·exact hx b n r
  ·rw[n]at r;cases r
 have hm:∀b u,H b=some u->¬Mut (some u)->b≠x:=fun b u q nm z=>by subst z;rw[q]at mu;exact nm mu
 refine⟨fun b u q n _ _=>k b u (hb b n) q,fun b u q n _ _=>⟨u.slots,k b u (hb b n) q⟩,fun b u q n _=>by rw[aG (hx b n)];exact n,fun b u q _=>?_,
  fun b xs q=>by rw[aG (hm b _ q fun z=>z)];exact q,fun b u xs q=>by rw[aG (hm b _ q fun z=>z)];exact q,fun b ps q=>⟨#[],by rw[aG (hm b _ q fun z=>z),q];simp⟩⟩
 by_cases hbe:b=e
 ·subst hbe;exact DR
 ·exact⟨u,k b u hbe q⟩
end
noncomputable def trk(h:ZE)(H:Hp):List Addr:=(Z4 h.objs.size).filter fun a=>(H a).isSome
noncomputable def jc(h:ZE)(H:Hp):ZE:=PySem.W.hideAll h (trk h H)
theorem vA(h:ZE)(H:Hp):(jc h H).objs.size=h.objs.size:=PySem.W.hideAll_size _ _
theorem yk{h:ZE}{H:Hp}{b:Addr}{o:Obj}(e:h.get? b=some o)(n:H b=none):(jc h H).get? b=some o:=
 PySem.W.hideAll_get _ e fun hm=>by
  have q:(H b).isSome=true:=(ZG.mp hm).2;rw[n]at q;simp at q
theorem Ay{h:ZE}{H:Hp}{b:Addr}{o:Obj}(e:(jc h H).get? b=some o):h.get? b=some o/\H b=none:=by
 have e':h.get? b=some o:=PySem.W.of_hideAll (trk h H) e;refine⟨e',?_⟩;cases q:H b with
 |none=>rfl
 |some x=>
  have hm:b∈trk h H:=ZG.mpr ⟨Zt.mpr (Zu e'),by simp[q]⟩
  have z:(jc h H).get? b=none:=PySem.W.hideAll_none (trk h H) hm;rw[z]at e;cases e
end L2
namespace L2
open PySem PySem.Spec PyProof.Rows
structure Mod(K:Z1)(mg:Str->Option Value)(base:ZE):Prop where
 kin:K.In base
 glob:base.Ns ZV mg
 blt:∃mb,base.Ns builtinsNs mb/\∀x:Str,x ≠ "__name__"->mb x=bootBuiltins x
 nolimit:base.NoLimit
structure Cx where
 prog:Zy
 w:Zm
 K:Z1
 mg:Str->Option Value
 base:ZE
 A:ZT
 N:List Str
 s₀:Shared
 H₀:Hp
 env:Env
 outer:List Env
 stack:List Env
 ex:List Addr
 fn:Str->Bool
 calm:Bool
 pn:List (Addr×Obj)
 xe:Value->Shared->Prop
noncomputable def frs(l:List Env):List Addr:=l.filterMap (·.frame)
noncomputable abbrev Cx.fs(X:Cx):List Addr:=frs X.outer
noncomputable def Vis(sc:XT)(x:Str):Prop:=sc.names.lookup x=some .local\/sc.names.lookup x=some .cell\/sc.names.lookup x=some .free
noncomputable def Loc(sc:XT)(x:Str):Prop:=sc.names.lookup x=some .local\/sc.names.lookup x=some .cell
noncomputable def Look(env:Env)(h:ZE)(m:Str->Option Value)(x:Str)(u:Value):Prop:=
 (env.kindOf x=some .local/\m x=some u)\/((env.kindOf x=some .cell\/env.kindOf x=some .free)/\∃c,env.cells.lookup x=some c/\h.IsCell c (some u))
structure Cx.Ok(X:Cx):Prop where
 mod:Mod X.K X.mg X.base
 kind:X.env.scope.kind=.function
 glob:X.env.globals=ZV
 blt:X.env.builtins=builtinsNs
 above:X.s₀.heap.objs.size<=X.env.locals
 inj:∀x y c,X.env.cells.lookup x=some c->X.env.cells.lookup y=some c->x=y
 has:∀x,(X.env.kindOf x=some .cell\/X.env.kindOf x=some .free)->∃c,X.env.cells.lookup x=some c
 cab:∀x c,X.fn x=true->X.env.cells.lookup x=some c->X.s₀.heap.objs.size<=c
 hd:X.calm=true->X.A.handled=none
 frames:X.A.frames=some X.stack
 stk:X.stack=X.outer\/(X.stack=X.env::X.outer/\X.env.frame=some X.env.locals)
 exf:∀b∈X.ex,b≠X.env.locals/\∀x c,X.env.cells.lookup x=some c->c≠b
 bs:∀b o,X.base.get? b=some o->X.s₀.heap.get? b=some o/\X.H₀ b=none
 bsz:X.base.objs.size<=X.s₀.heap.objs.size
 noex:∀b o,X.base.get? b=some o->b∉X.ex
 exfs:∀b∈X.ex,b∉X.fs
 funs:X.s₀.heap.FunFrames X.base X.outer
 frf:∀b∈X.fs,X.H₀ b=none
structure Inv(X:Cx)(aa:List (Addr×Obj))(σ:List (Option V))(H:Hp)(s:Shared):Prop where
 ok:X.Ok
 os:s.os=X.s₀.os
 bare:Wm s.gens
 base:Un X.fs X.ex X.H₀ H X.s₀.heap s.heap
 loc:∃m,s.heap.Ns X.env.locals m/\∀(i:Nat) (x:Str) (v:V),X.N[i]?=some x->σ[i]?=some (some v)->Vis X.env.scope x->∃u,RelV v u/\Look X.env s.heap m x u
 cell:∀x c,X.env.cells.lookup x=some c->∃v,s.heap.IsCell c v
 free:H X.env.locals=none
 freeC:∀x c,X.env.cells.lookup x=some c->H c=none
 pin:∀p∈X.pn++aa,s.heap.get? p.1=some p.2/\H p.1=none/\p.1≠X.env.locals/\p.1∉X.fs/\∀v,p.2.data≠.cell v
 hok:HOk X.prog X.w H s.heap
 len:σ.length=X.N.length
section
variable{X:Cx}{aa:List (Addr×Obj)}{σ:List (Option V)}{H H':Hp}{s:Shared}{h':ZE}
theorem Cx.Ok.nofr(ok:X.Ok){b:Addr}{o:Obj}(e:X.base.get? b=some o):b∉X.fs:=fun hb=>by
 have:=(ok.funs.mem hb).1
 rw[e]at this;cases this
theorem Inv.bs(I:Inv X aa σ H s):∀b o,X.base.get? b=some o->s.heap.get? b=some o/\H b=none:=fun b o e=>
 ⟨I.base.keep b o (I.ok.bs b o e).1 (I.ok.bs b o e).2 (I.ok.nofr e) (I.ok.noex b o e),I.base.free b o (I.ok.bs b o e).1 (I.ok.bs b o e).2 (I.ok.noex b o e)⟩
theorem Inv.bk(I:Inv X aa σ H s):∀b o,X.base.get? b=some o->s.heap.get? b=some o:=fun b o e=>(I.bs b o e).1
theorem Inv.mod(I:Inv X aa σ H s):Mod X.K X.mg X.base:=I.ok.mod
theorem Inv.kIn(I:Inv X aa σ H s):X.K.In s.heap:=I.ok.mod.kin.keeps I.bk
theorem Inv.lt(I:Inv X aa σ H s):X.env.locals<s.heap.objs.size:=let ⟨_,hn,_⟩:=I.loc;hn.lt
theorem Inv.sz(I:Inv X aa σ H s):X.s₀.heap.objs.size<=s.heap.objs.size:=Nat.le_trans I.ok.above (Nat.le_of_lt I.lt)
theorem Inv.nofs(I:Inv X aa σ H s){a:Addr}(h:s.heap.objs.size<=a):a∉X.fs:=fun hb=>by
 obtain⟨_,o,ho,_⟩:=I.ok.funs.mem hb;exact absurd (Nat.lt_of_lt_of_le (Zu ho) (Nat.le_trans I.sz h)) (Nat.lt_irrefl _)
theorem Inv.cne(I:Inv X aa σ H s):∀x c,X.env.cells.lookup x=some c->c≠X.env.locals:=fun x c e z=>by
 obtain⟨v,o,ho,hd⟩:=I.cell x c e;obtain⟨m,⟨o',es,ep,C9,hd',_⟩,_⟩:=I.loc;rw[z,C9]at ho;cases ho;rw[hd']at hd;cases hd
theorem Inv.funs(I:Inv X aa σ H s):s.heap.FunFrames X.base X.outer:=by
 have all:∀(l:List Env),(∀b∈frs l,b∈X.fs)->X.s₀.heap.FunFrames X.base l->s.heap.FunFrames X.base l:=by
  intro l
  induction l with
  |nil=>intro _ _;trivial
  |cons env r ih=>
   intro hs hl;obtain⟨hk,⟨L,o,hf,hn,ho,hd⟩,hr⟩:=hl;have hL:L∈X.fs:=hs L (by unfold frs;rw[Xr,hf];exact Zq)
   obtain⟨sl,e⟩:=I.base.slot L o ho (I.ok.frf L hL) hL fun z=>I.ok.exfs L z hL;exact⟨hk,⟨L,_,hf,hn,e,hd⟩,ih (fun b hb=>hs b (by unfold frs;rw[Xr,hf];exact Z8 _ hb)) hr⟩
 exact all X.outer (fun _ hb=>hb) I.ok.funs
theorem Inv.stack(I:Inv X aa σ H s):s.heap.FunFrames X.base X.stack:=by
 rcases I.ok.stk with e|⟨e,hf⟩
 ·rw[e];exact I.funs
 ·rw[e];obtain⟨m,hn,_⟩:=I.loc;refine .cons (by rw[I.ok.kind];decide) hf hn ?_ I.funs
  exact Heap.get?_none_of_le (Nat.le_trans I.ok.bsz I.ok.above)
theorem Inv.stkSub(I:Inv X aa σ H s):∀b∈frs X.stack,b∈X.env.locals::X.fs:=fun b hb=>by
 rcases I.ok.stk with e|⟨e,hf⟩
 ·rw[e]at hb;exact Z8 _ hb
 ·rw[e]at hb;unfold frs at hb;rw[Xr,hf]at hb;exact hb
theorem Inv.stkFree(I:Inv X aa σ H s):∀b∈frs X.stack,H b=none:=fun b hb=>by
 rcases Zx.mp (I.stkSub b hb) with e|hb
 ·rw[e];exact I.free
 ·obtain⟨_,o,ho,_⟩:=I.ok.funs.mem hb;exact I.base.free b o ho (I.ok.frf b hb) fun z=>I.ok.exfs b z hb
theorem Inv.step{g':Array WD}{t':Nat}{d':Drawn}{ch:List Addr}(I:Inv X aa σ H s)
  (Di:∀b∈ch,(b∈X.ex\/X.s₀.heap.objs.size<=b)/\b≠X.env.locals/\(∀x c,X.env.cells.lookup x=some c->c≠b)/\∀p∈X.pn++aa,p.1≠b)
  (keep:∀b o,b≠X.env.locals->b∉X.fs->b∉ch->s.heap.get? b=some o->H b=none->h'.get? b=some o)
  (slot:∀b o,b≠X.env.locals->b∈X.fs->b∉ch->s.heap.get? b=some o->H b=none->∃sl,h'.get? b=some {o with slots:=sl})(free:∀b o,b∉ch->s.heap.get? b=some o->H b=none->H' b=none)
  (there:∀b o,b∉ch->s.heap.get? b=some o->∃o',h'.get? b=some o')
  (tups:∀b xs,H b=some (.tup xs)->H' b=some (.tup xs))(frzs:∀b o u,H b=some (.frz o u)->H' b=some (.frz o u))(tbls:∀b ps,H b=some (.tbl ps)->∃more,H' b=some (.tbl (ps++more)))
  (ns:∀m,s.heap.Ns X.env.locals m->h'.Ns X.env.locals m)(hok:HOk X.prog X.w H' h')(hg:Wm g'):
  Inv X aa σ H' {s with heap:=h',gens:=g',drawn:=d',toks:=t'}:=by
 have neL:∀b o,X.s₀.heap.get? b=some o->b≠X.env.locals:=fun b o e=>Nat.ne_of_lt (Nat.lt_of_lt_of_le (Zu e) I.ok.above);have neC:∀b o,X.s₀.heap.get? b=some o->b∉X.ex->b∉ch:=fun b o e hx hb=>by
  rcases (Di b hb).1 with z|z
  ·exact hx z
  ·exact absurd (Nat.lt_of_lt_of_le (Zu e) z) (Nat.lt_irrefl _)
 have cellK:∀x c,X.env.cells.lookup x=some c->∀v,s.heap.IsCell c v->h'.IsCell c v:=fun x c e v ⟨o,ho,hd⟩=>by
  have nch:c∉ch:=fun z=>(Di c z).2.2.1 x c e rfl;by_cases hc:c∈X.fs
  ·obtain⟨sl,q⟩:=slot c o (I.cne x c e) hc nch ho (I.freeC x c e);exact⟨_,q,hd⟩
  ·exact⟨o,keep c o (I.cne x c e) hc nch ho (I.freeC x c e),hd⟩
 refine⟨I.ok,I.os,hg,⟨fun b o e n hb hx=>?_,fun b o e n hb hx=>?_,fun b o e n hx=>?_,fun b o e hx=>?_,fun b xs e=>tups b xs (I.base.tups b xs e),fun b o xs e=>frzs b o xs (I.base.frzs b o xs e),fun b ps e=>?_⟩,?_,fun x c e=>?_,?_,fun x c e=>?_,fun p hp=>?_,hok,I.len⟩
 ·exact keep b o (neL b o e) hb (neC b o e hx) (I.base.keep b o e n hb hx) (I.base.free b o e n hx)
 ·obtain⟨sl,e1⟩:=I.base.slot b o e n hb hx;obtain⟨sl',e2⟩:=slot b _ (neL b o e) hb (neC b o e hx) e1 (I.base.free b o e n hx);exact⟨sl',e2⟩
 ·obtain⟨o',e1⟩:=I.base.there b o e hx;exact free b o' (neC b o e hx) e1 (I.base.free b o e n hx)
 ·obtain⟨o',e1⟩:=I.base.there b o e hx;exact there b o' (neC b o e hx) e1
 ·obtain⟨m1,e1⟩:=I.base.tbls b ps e;obtain⟨m2,e2⟩:=tbls b _ e1;exact⟨m1++m2,by rw[e2,VW]⟩
 ·obtain⟨m,hn,hl⟩:=I.loc;refine⟨m,ns m hn,fun i x v e1 e2 e3=>?_⟩;obtain⟨u,r,l⟩:=hl i x v e1 e2 e3;refine⟨u,r,?_⟩;rcases l with l|⟨k,c,e,z⟩
  ·exact .inl l
  ·exact .inr ⟨k,c,e,cellK x c e _ z⟩
 ·obtain⟨v,z⟩:=I.cell x c e;exact⟨v,cellK x c e v z⟩
 ·obtain⟨m,⟨o,_,_,ho,_⟩,_⟩:=I.loc;exact free _ o (fun z=>(Di _ z).2.1 rfl) ho I.free
 ·obtain⟨v,o,ho,hd⟩:=I.cell x c e;exact free c o (fun z=>(Di c z).2.2.1 x c e rfl) ho (I.freeC x c e)
 ·obtain⟨e,n,ne,nf,d⟩:=I.pin p hp;have nch:p.1∉ch:=fun z=>(Di p.1 z).2.2.2 p hp rfl;exact⟨keep p.1 p.2 ne nf nch e n,free p.1 p.2 nch e n,ne,nf,d⟩
theorem Inv.un{t':Nat}(I:Inv X aa σ H s)(u:Un X.fs [] H H' s.heap h')(hok:HOk X.prog X.w H' h'):Inv X aa σ H' {s with heap:=h',toks:=t'}:=by
 obtain⟨m,⟨o,es,ep,ho,r⟩,_⟩:=id I.loc;obtain⟨sl,hL⟩:=u.any ho I.free (by simp)
 exact I.step (g':=s.gens) (d':=s.drawn) (ch:=[]) (fun _ z=>nomatch z) (fun b o _ hb _ e n=>u.keep b o e n hb (by simp)) (fun b o _ hb _ e n=>u.slot b o e n hb (by simp)) (fun b o _ e n=>u.free b o e n (by simp)) (fun b o _ e=>u.there b o e (by simp)) u.tups u.frzs u.tbls (fun m' hm=>by
  obtain⟨o',C',ep',C9,r'⟩:=hm;rw[ho]at C9;cases C9;exact⟨_,C',ep',hL,r'⟩) hok I.bare
theorem Inv.call{g':Array WD}{t':Nat}{d':Drawn}{ch:List Addr}(I:Inv X aa σ H s)(u:Un (frs X.stack) ch H H' s.heap h')(hok:HOk X.prog X.w H' h')(hg:Wm g')
  (Di:∀b∈ch,(b∈X.ex\/X.s₀.heap.objs.size<=b)/\b≠X.env.locals/\(∀x c,X.env.cells.lookup x=some c->c≠b)/\∀p∈X.pn++aa,p.1≠b):
  Inv X aa σ H' {s with heap:=h',gens:=g',drawn:=d',toks:=t'}:=by
 obtain⟨m,⟨o,es,ep,ho,r⟩,_⟩:=id I.loc;obtain⟨sl,hL⟩:=u.any ho I.free fun z=>(Di _ z).2.1 rfl;exact I.step (ch:=ch) Di (fun b o hL hb hc e n=>u.keep b o e n (fun z=>(Zx.mp (I.stkSub b z)).elim hL hb) hc) (fun b o _ _ hc e n=>u.any e n hc) (fun b o hc e n=>u.free b o e n hc) (fun b o hc e=>u.there b o e hc) u.tups u.frzs u.tbls (fun m' hm=>by
  obtain⟨o',C',ep',C9,r'⟩:=hm;rw[ho]at C9;cases C9;exact⟨_,C',ep',hL,r'⟩) hok hg
theorem Inv.turned{t':Nat}{it:Addr}(I:Inv X aa σ H s)(k:∀b o,b≠it->s.heap.get? b=some o->h'.get? b=some o)(hn:H it=none)(hL:it≠X.env.locals)
  (h1:it∈X.ex\/X.s₀.heap.objs.size<=it)(h2:∀x c,X.env.cells.lookup x=some c->c≠it)(h3:∀p∈X.pn++aa,p.1≠it):Inv X aa σ H {s with heap:=h',toks:=t'}:=by
 have nit:∀b u,H b=some u->b≠it:=fun b u e z=>by rw[z,hn]at e;cases e
 refine I.step (g':=s.gens) (d':=s.drawn) (ch:=[it]) (fun b hb=>?_) (fun b o _ _ hc e _=>k b o (fun z=>hc (by simp[z])) e) (fun b o _ _ hc e _=>⟨o.slots,k b o (fun z=>hc (by simp[z])) e⟩) (fun _ _ _ _ n=>n)
  (fun b o hc e=>⟨o,k b o (fun z=>hc (by simp[z])) e⟩) (fun _ _ e=>e) (fun _ _ _ e=>e) (fun b ps e=>⟨#[],by rw[e];simp⟩) (fun m hm=>?_) (fun b u e=>?_) I.bare
 ·have e:b=it:=by simpa using hb
  subst e;exact⟨h1,hL,h2,h3⟩
 ·obtain⟨o,es,ep,ho,r⟩:=hm;exact⟨o,es,ep,k _ o (Ne.symm hL) ho,r⟩
 ·refine (I.hok b u e).stay (fun c v hc q=>k c v ?_ q) (fun _ q=>q) fun _ _ q=>q;rcases hc with z|z
  ·rw[z];exact nit b u e
  ·exact nit c _ z
theorem Inv.tok(I:Inv X aa σ H s)(t:Nat):Inv X aa σ H {s with toks:=t}:=I.un (h':=s.heap) (t':=t) Un.refl I.hok
theorem Inv.kept{t':Nat}(I:Inv X aa σ H s)(k:∀b u,s.heap.get? b=some u->h'.get? b=some u):Inv X aa σ H {s with heap:=h',toks:=t'}:=I.un (Un.kept k) (I.hok.kept k)
theorem Inv.laid{a:Addr}{o:HO}{t':Nat}(I:Inv X aa σ H s)(k:∀b u,s.heap.get? b=some u->h'.get? b=some u)(hp:s.heap.objs.size<=a)(new:bh X.prog X.w (upd H a o) h' a o):
  Inv X aa σ (upd H a o) {s with heap:=h',toks:=t'}:=I.un (Un.laid k hp (I.hok.fresh hp)) (I.hok.laid k hp new)
theorem Inv.write{x e:Addr}{o:HO}{t':Nat}(I:Inv X aa σ H s)(mu:Mut (H x))(he:e=x\/H e=some (.own x))(k:∀b u,b≠e->s.heap.get? b=some u->h'.get? b=some u)(DR:∃u,h'.get? e=some u)
  (new:bh X.prog X.w (upd H x o) h' x o):Inv X aa σ (upd H x o) {s with heap:=h',toks:=t'}:=I.un (Un.write mu he k DR) (I.hok.write mu he k DR new)
theorem Inv.weak{σ':List (Option V)}(I:Inv X aa σ H s)(hl:σ'.length=σ.length)(w:∀(i:Nat) v,σ'[i]?=some (some v)->σ[i]?=some (some v)):Inv X aa σ' H s:=
 ⟨I.ok,I.os,I.bare,I.base,let ⟨m,hn,hl'⟩:=I.loc;⟨m,hn,fun i x v e1 e2 e3=>hl' i x v e1 (w i v e2) e3⟩,I.cell,I.free,I.freeC,I.pin,I.hok,hl.trans I.len⟩
theorem Inv.pins_of{DN:List (Addr×Obj)}(I:Inv X aa σ H s)(h:∀p∈DN,s.heap.get? p.1=some p.2/\H p.1=none/\p.1≠X.env.locals/\p.1∉X.fs/\∀v,p.2.data≠.cell v):Inv X DN σ H s:=
 ⟨I.ok,I.os,I.bare,I.base,I.loc,I.cell,I.free,I.freeC,fun p hp=>(ZH.mp hp).elim (fun z=>I.pin p (XG _ z)) (h p),I.hok,I.len⟩
theorem lg{N:List Str}(hN:N.Nodup){i j:Nat}{x:Str}(a:N[i]?=some x)(b:N[j]?=some x):i=j:=by
 obtain⟨h1,e1⟩:=Zh.mp a;obtain⟨h2,e2⟩:=Zh.mp b;exact (List.getElem_inj hN).mp (e1.trans e2.symm)
theorem vb{M:Tf}{A:ZT}{E:Value->Shared->Prop}{i:Nat}{x:Str}{v:V}{u:Value}{Q:Unit->Shared->Prop}(I:Inv X aa σ H s)(hN:X.N.Nodup)(hi:X.N[i]?=some x)(hx:Loc X.env.scope x)(r:RelV v u)
  (h:∀s',Inv X aa (σ.set i (some v)) H s'->(∃a,X0 a s.heap s'.heap/\(a=X.env.locals\/X.env.cells.lookup x=some a))->Q () s')(hf:X.fn x=true\/X.env.scope.names.lookup x=some .local:=by first|exact .inl rfl|exact .inr rfl|assumption):Zv M A (storeName X.env x u) Q E s:=by
 obtain⟨m,hn,hl⟩:=id I.loc;have hcls:(X.env.scope.kind==.class||(X.env.scope.kind==.module&&X.env.locals != X.env.globals))=false:=by rw[I.ok.kind];rfl
 have hiσ:i<σ.length:=by rw[I.len];exact (Zh.mp hi).1
 have cne:=I.cne;have tracked:∀{a:Addr} {h':ZE},(∃o,s.heap.get? a=some o/\H a=none)->X0 a s.heap h'->HOk X.prog X.w H h':=fun {a h'} ha hs b ob e=>by
  obtain⟨_,_,hfree⟩:=ha;refine (I.hok b ob e).stay (fun c w' hc q=>(hs.2 c ?_).trans q) (fun _ q=>q) fun _ _ q=>q;rintro rfl;rcases hc with rfl|hc
  ·rw[hfree]at e;cases e
  ·rw[hfree]at hc;cases hc
 rcases hx with hk|hk
 ·refine wpAny_storeName_local hk hn (fun h' hn' hs=>?_) hcls;obtain⟨oL,_,_,hoL,_⟩:=id hn;refine h _ ⟨I.ok,I.os,I.bare,⟨fun b o e n hb hx=>?_,fun b o e n hb hx=>?_,I.base.free,fun b o e hx=>?_,I.base.tups,I.base.frzs,I.base.tbls⟩,⟨_,hn',fun j y v' e1 e2 e3=>?_⟩,fun y c e=>?_,I.free,I.freeC,fun p hp=>?_,tracked ⟨oL,hoL,I.free⟩ hs,by simpa using I.len⟩ ⟨_,hs,.inl rfl⟩
  ·exact (hs.2 b (Nat.ne_of_lt (Nat.lt_of_lt_of_le (Zu e) I.ok.above))).trans (I.base.keep b o e n hb hx)
  ·obtain⟨sl,e1⟩:=I.base.slot b o e n hb hx;exact⟨sl,(hs.2 b (Nat.ne_of_lt (Nat.lt_of_lt_of_le (Zu e) I.ok.above))).trans e1⟩
  ·obtain⟨o',e1⟩:=I.base.there b o e hx;exact⟨o',(hs.2 b (Nat.ne_of_lt (Nat.lt_of_lt_of_le (Zu e) I.ok.above))).trans e1⟩
  ·by_cases hj:j=i
   ·subst hj;rw[hi]at e1;cases e1;rw[W3 hiσ]at e2;cases e2;exact⟨u,r,.inl ⟨hk,by simp⟩⟩
   ·rw[Xy (Ne.symm hj)]at e2;obtain⟨u',r',q⟩:=hl j y v' e1 e2 e3;refine⟨u',r',?_⟩;rcases q with ⟨k,e⟩|⟨k,c,e,z⟩
    ·refine .inl ⟨k,?_⟩
     have:y≠x:=fun e=>hj (lg hN e1 (e ▸ hi))
     simp[this,e]
    ·exact .inr ⟨k,c,e,z.sameBut hs (cne y c e)⟩
  ·obtain⟨w',z⟩:=I.cell y c e;exact⟨w',z.sameBut hs (cne y c e)⟩
  ·obtain⟨e,n,ne,nf,d⟩:=I.pin p hp;exact⟨(hs.2 p.1 ne).trans e,n,ne,nf,d⟩
 ·have DV:X.fn x=true:=by
   rcases hf with z|z
   ·exact z
   ·rw[z]at hk;cases hk
  obtain⟨c,hc⟩:=I.ok.has x (.inl hk);obtain⟨w',z⟩:=I.cell x c hc;refine wpAny_storeName_cell I.ok.kind hk hc z (fun h' hc' hs=>?_);obtain⟨oc,hoc,hocd⟩:=id z;refine h {s with heap:=h'} ⟨I.ok,I.os,I.bare,⟨fun b o e n hb hx=>?_,fun b o e n hb hx=>?_,I.base.free,fun b o e hx=>?_,I.base.tups,I.base.frzs,I.base.tbls⟩,⟨m,hn.sameBut hs (Ne.symm (cne x c hc)),fun j y v' e1 e2 e3=>?_⟩,fun y c' e=>?_,I.free,I.freeC,fun p hp=>?_,tracked ⟨oc,hoc,I.freeC x c hc⟩ hs,by simpa using I.len⟩ ⟨c,hs,.inr hc⟩
  ·exact (hs.2 b (Nat.ne_of_lt (Nat.lt_of_lt_of_le (Zu e) (I.ok.cab x c DV hc)))).trans (I.base.keep b o e n hb hx)
  ·obtain⟨sl,e1⟩:=I.base.slot b o e n hb hx;exact⟨sl,(hs.2 b (Nat.ne_of_lt (Nat.lt_of_lt_of_le (Zu e) (I.ok.cab x c DV hc)))).trans e1⟩
  ·obtain⟨o',e1⟩:=I.base.there b o e hx;exact⟨o',(hs.2 b (Nat.ne_of_lt (Nat.lt_of_lt_of_le (Zu e) (I.ok.cab x c DV hc)))).trans e1⟩
  ·by_cases hj:j=i
   ·subst hj;rw[hi]at e1;cases e1;rw[W3 hiσ]at e2;cases e2;exact⟨u,r,.inr ⟨.inl hk,c,hc,hc'⟩⟩
   ·rw[Xy (Ne.symm hj)]at e2;obtain⟨u',r',q⟩:=hl j y v' e1 e2 e3;refine⟨u',r',?_⟩;rcases q with q|⟨k,c',e,z'⟩
    ·exact .inl q
    ·refine .inr ⟨k,c',e,z'.sameBut hs ?_⟩;rintro rfl;exact hj (lg hN e1 (I.ok.inj _ _ _ e hc ▸ hi))
  ·by_cases hcc:c'=c
   ·subst hcc;exact⟨_,hc'⟩
   ·obtain⟨w2,z2⟩:=I.cell y c' e;exact⟨w2,z2.sameBut hs hcc⟩
  ·obtain⟨e,n,ne,nf,d⟩:=I.pin p hp;refine⟨(hs.2 p.1 ?_).trans e,n,ne,nf,d⟩;intro q;rw[q,hoc]at e;have q':oc=p.2:=Ze e;exact d w' (by rw[<-q'];exact hocd)
theorem i9{M:Tf}{A:ZT}{E:Value->Shared->Prop}{i:Nat}{x:Str}{v:V}{u:Value}{Q:Unit->Shared->Prop}(I:Inv X aa σ H s)(hN:X.N.Nodup)(hi:X.N[i]?=some x)(hx:Loc X.env.scope x)(r:RelV v u)
  (h:∀s',Inv X aa (σ.set i (some v)) H s'->Q () s')(hf:X.fn x=true\/X.env.scope.names.lookup x=some .local:=by first|exact .inl rfl|exact .inr rfl|assumption):Zv M A (storeName X.env x u) Q E s:=
 vb I hN hi hx r (fun s' I' _=>h s' I') hf
theorem Inv.call'{s':Shared}{ch:List Addr}(I:Inv X aa σ H s)(ho:s'.os=s.os)(u:Un (frs X.stack) ch H H' s.heap s'.heap)(hok:HOk X.prog X.w H' s'.heap)(hg:Wm s'.gens)
  (Di:∀b∈ch,(b∈X.ex\/X.s₀.heap.objs.size<=b)/\b≠X.env.locals/\(∀x c,X.env.cells.lookup x=some c->c≠b)/\∀p∈X.pn++aa,p.1≠b):Inv X aa σ H' s':=by
 obtain⟨h',g',d',t',o'⟩:=s';have e:o'=s.os:=ho;subst e;exact I.call (g':=g') (t':=t') (d':=d') u hok hg Di
end
noncomputable abbrev XK:=Value->Option Addr->Hp->Prop
noncomputable abbrev St:=List (Option V)
noncomputable abbrev VK:=V->Hp->Prop
noncomputable abbrev TE:=St->Hp->VK->Prop
noncomputable abbrev TT:=St->Hp->(Bool->Hp->Prop)->Prop
noncomputable abbrev TA:=St->Hp->(List V->Hp->Prop)->Prop
structure iE where
 nx:St->Hp->Prop
 rt:VK
 bk:St->Hp->Prop:=fun _ _=>False
 ct:St->Hp->Prop:=fun _ _=>False
noncomputable abbrev TS:=iE->St->Hp->Prop
noncomputable def EP(X:Cx)(aa:List (Addr×Obj))(σ:St)(Q:VK)(u:Value)(s':Shared):Prop:=∃v H',Inv X aa σ H' s'/\RelV v u/\Q v H'
noncomputable def TP(X:Cx)(aa:List (Addr×Obj))(σ:St)(Q:Bool->Hp->Prop)(b:Bool)(s':Shared):Prop:=∃H',Inv X aa σ H' s'/\Q b H'
noncomputable def AP(X:Cx)(aa:List (Addr×Obj))(σ:St)(Q:List V->Hp->Prop)(us:List Value)(s':Shared):Prop:=∃vs H',Inv X aa σ H' s'/\aJ vs us/\Q vs H'
noncomputable def SP(X:Cx)(aa:List (Addr×Obj))(D:iE)(f:Flow)(s':Shared):Prop:=
 match f with
 | .next=>∃σ' H',Inv X aa σ' H' s'/\D.nx σ' H'
 | .brk=>∃σ' H',Inv X aa σ' H' s'/\D.bk σ' H'
 | .cont=>∃σ' H',Inv X aa σ' H' s'/\D.ct σ' H'
 | .ret u=>∃v σ' H',Inv X aa σ' H' s'/\RelV v u/\D.rt v H'
noncomputable def PE(X:Cx)(e:Expr)(t:TE):Prop:=
 ∀(aa:List (Addr×Obj)) (s:Shared) (σ:St) (H:Hp) (Q:VK),Inv X aa σ H s->t σ H Q->Zv (model X.prog X.w) X.A (eval e X.env) (EP X aa σ Q) X.xe s
noncomputable def PT(X:Cx)(e:Expr)(t:TT):Prop:=
 ∀(aa:List (Addr×Obj)) (s:Shared) (σ:St) (H:Hp) (Q:Bool->Hp->Prop),Inv X aa σ H s->t σ H Q->Zv (model X.prog X.w) X.A (isTrue e X.env (eval e X.env)) (TP X aa σ Q) X.xe s
noncomputable def PW(X:Cx)(e:Expr)(t:TT):Prop:=
 ∀(whole:Sem Value) (aa:List (Addr×Obj)) (s:Shared) (σ:St) (H:Hp) (Q:Bool->Hp->Prop),Inv X aa σ H s->t σ H Q->Zv (model X.prog X.w) X.A (isTrue e X.env whole) (TP X aa σ Q) X.xe s
theorem PW.pt{X:Cx}{e:Expr}{t:TT}(h:PW X e t):PT X e t:=h _
noncomputable def PA(X:Cx)(es:List Expr)(t:TA):Prop:=
 ∀(pos:Pos) (aa:List (Addr×Obj)) (s:Shared) (σ:St) (H:Hp) (Q:List V->Hp->Prop),Inv X aa σ H s->t σ H Q->Zv (model X.prog X.w) X.A (spliced (backTo pos (Zn es X.env))) (AP X aa σ Q) X.xe s
noncomputable def PS(X:Cx)(st:Stmt)(t:TS):Prop:=
 ∀(aa:List (Addr×Obj)) (s:Shared) (σ:St) (H:Hp) (D:iE),Inv X aa σ H s->t D σ H->Zv (model X.prog X.w) X.A (exec st X.env) (SP X aa D) X.xe s
noncomputable def PSs(X:Cx)(st:List Stmt)(t:TS):Prop:=
 ∀(aa:List (Addr×Obj)) (s:Shared) (σ:St) (H:Hp) (D:iE),Inv X aa σ H s->t D σ H->Zv (model X.prog X.w) X.A (execs st X.env) (SP X aa D) X.xe s
theorem thn{α:Type}{t:Sem α}{Q Q':α->Shared->Prop}{M:Tf}{A:ZT}{E:Value->Shared->Prop}{s:Shared}(h:Zv M A t Q E s)(hQ:∀a s,Q a s->Q' a s):Zv M A t Q' E s:=Y3 h hQ fun _ _ x=>x
end L2
namespace L2
open PySem PySem.Spec PyProof.Rows
section
variable{X:Cx}
noncomputable def dO(i:Nat):TE:=fun σ H Q=>∃v,σ[i]?=some (some v)/\Q v H
noncomputable def tC(v:V):TE:=fun _ H Q=>Q v H
theorem Cg{i:Nat}{x:Str}{pos:Pos}(hN:X.N[i]?=some x)(hv:Vis X.env.scope x)(hd:(x==("__debug__" : Str))=false:=by decide)(Dj:(x==("__classdict__" : Str))=false:=by decide):PE X (.Name x pos) (dO i):=by
 intro aa s σ H Q I h;obtain⟨v,e,h⟩:=h;obtain⟨m,hn,hl⟩:=I.loc;obtain⟨u,r,l⟩:=hl i x v hN e hv;have fin:EP X aa σ Q u s:=⟨v,H,I,r,h⟩;rcases l with ⟨hk,hm⟩|⟨hk,c,hc,hcell⟩
 ·exact Ub (wpAny_loadName_local I.ok.kind hk hn hm fin) hd
 ·rcases hk with hk|hk
  ·exact Ub (wpAny_loadName_cell I.ok.kind hk hc hcell fin) hd
  ·exact Ub (wpAny_loadName_free I.ok.kind hk hc hcell fin Dj) hd
theorem ad{i j pos}:PE X (.Constant (.int i) j pos) (tC (.int i)):=fun _ _ _ H _ I h=>wpAny_Constant_int ⟨.int i,H,I.tok _,⟨_,rfl⟩,h⟩
theorem cw{b j pos}:PE X (.Constant (.bool b) j pos) (tC (.bl b)):=fun _ _ _ H _ I h=>Constant_bool ⟨.bl b,H,I,rfl,h⟩
theorem uW{j pos}:PE X (.Constant .none j pos) (tC .non):=fun _ _ _ H _ I h=>Constant_none ⟨.non,H,I,rfl,h⟩
theorem mv{x j pos}:PE X (.Constant (.str x) j pos) (tC (.str x)):=fun _ _ _ H _ I h=>Calls.Constant_str ⟨.str x,H,I.tok _,⟨_,rfl⟩,h⟩
noncomputable def Gl(X:Cx)(x:Str):Prop:=X.env.kindOf x=some .globalImplicit
theorem iO{E:Value->Shared->Prop}{aa:List (Addr×Obj)}{s:Shared}{σ:St}{H:Hp}{x:Str}{u:Value}{pos:Pos}{Q:Value->Shared->Prop}(I:Inv X aa σ H s)(hg:Gl X x)(hm:X.mg x=some u)(h:Q u s)
  (hd:(x==("__debug__" : Str))=false:=by decide):Zv (model X.prog X.w) X.A (eval (.Name x pos) X.env) Q E s:=
 WE I.ok.kind hg (Calls.loadGlobal_global (by rw[I.ok.glob];exact I.mod.glob.keeps I.bk) hm h) hd
theorem fm{E:Value->Shared->Prop}{aa:List (Addr×Obj)}{s:Shared}{σ:St}{H:Hp}{x:Str}{u:Value}{pos:Pos}{Q:Value->Shared->Prop}(I:Inv X aa σ H s)(hg:Gl X x)(hm:X.mg x=none)(hv:bootBuiltins x=some u)(h:Q u s)
  (hn:x ≠ "__name__" :=by decide)(hd:(x==("__debug__" : Str))=false:=by decide):Zv (model X.prog X.w) X.A (eval (.Name x pos) X.env) Q E s:=by
 obtain⟨mb,h1,h2⟩:=I.mod.blt;exact WE I.ok.kind hg (Calls.loadGlobal_builtin (by rw[I.ok.glob];exact I.mod.glob.keeps I.bk) hm (by rw[I.ok.blt];exact h1.keeps I.bk) ((h2 x hn).trans hv) h) hd
theorem gT{x:Str}{v:V}{u:Value}{pos:Pos}(hg:Gl X x)(hm:X.mg x=some u)(r:RelV v u)(hd:(x==("__debug__" : Str))=false:=by decide):PE X (.Name x pos) (tC v):=
 fun _ _ _ H _ I h=>iO I hg hm ⟨v,H,I,r,h⟩ hd
theorem gr{x:Str}{v:V}{u:Value}{pos:Pos}(hg:Gl X x)(hm:X.mg x=none)(hv:bootBuiltins x=some u)(r:RelV v u)(hn:x ≠ "__name__" :=by decide)(hd:(x==("__debug__" : Str))=false:=by decide):PE X (.Name x pos) (tC v):=
 fun _ _ _ H _ I h=>fm I hg hm hv ⟨v,H,I,r,h⟩ hn hd
variable{a b:Expr}{ta tb:TE}{pos:Pos}
noncomputable def PC(X:Cx)(op:Uj)(a b:Expr)(t:TE):Prop:=
 ∀(aa:List (Addr×Obj)) (s:Shared) (σ:St) (H:Hp) (Q:VK),Inv X aa σ H s->t σ H Q->
  Zv (model X.prog X.w) X.A (eval a X.env) (fun v s₁=>Zv (model X.prog X.w) X.A (eval b X.env) (fun u s₂=>Zv (model X.prog X.w) X.A (compareOp op v u) (EP X aa σ Q) X.xe s₂) X.xe s₁) X.xe s
noncomputable def tB(t:TE):TT:=fun σ H Q=>t σ H fun x H1=>∃c,x=.bl c/\Q c H1
theorem vx{op:Uj}{t:TE}(h:PC X op a b t)(h1:behindInMarks op b=false:=by first|exact nobehind _ (by decide) (by decide)|rfl):PE X (.Compare a [op] [b] pos) t:=fun aa s σ H Q I hw=>Ua (h aa s σ H Q I hw) h1
theorem vQ{op:Uj}{t:TE}(h:PC X op a b t)(h1:behindInMarks op b=false:=by first|exact nobehind _ (by decide) (by decide)|rfl):PT X (.Compare a [op] [b] pos) (tB t):=by
 intro aa s σ H Q I hw;refine Vi (thn (h aa s σ H _ I hw) fun v s1 h1=>thn h1 fun u s2 h2=>thn h2 fun c s3 zz=>?_) h1;obtain⟨x,H1,I1,r1,q1⟩:=zz;obtain⟨d,rfl,q⟩:=q1;cases r1;exact Ye ⟨H1,I1,q⟩
theorem bG{e:Expr}{t:TE}(h:PE X e t)(he:∀whole,isTrue e X.env whole=(do let v <-whole;standAt e.pos;holding [v] (truthy v)):=by intro _;rfl):PT X e (tB t):=by
 intro aa s σ H Q I hw;refine isTrue_plain (thn (h aa s σ H _ I hw) fun v s1 zz=>?_) (he _);obtain⟨x,H1,I1,r1,q1⟩:=zz;obtain⟨d,rfl,q⟩:=q1;cases r1;exact Ye ⟨H1,I1,q⟩
variable{tA DW:TT}{rest:List Expr}
noncomputable def tAnd(t u:TT):TT:=fun σ H Q=>t σ H fun c H1=>if c=true then u σ H1 Q else Q false H1
noncomputable def tOr(t u:TT):TT:=fun σ H Q=>t σ H fun c H1=>if c=true then Q true H1 else u σ H1 Q
noncomputable def tNot(t:TT):TT:=fun σ H Q=>t σ H fun c H1=>Q (!c) H1
theorem j7(ha:PT X a tA):PW X (.BoolOp .And [a] pos) tA:=by
 intro wh aa s σ H Q I h;refine isTrue_and (thn (ha aa s σ H Q I h) fun c s1 e=>?_);cases c with
 |true=>exact isTrue_and_nil e
 |false=>exact e
theorem fL(ha:PT X a tA):PW X (.BoolOp .Or [a] pos) tA:=by
 intro wh aa s σ H Q I h;refine isTrue_or (thn (ha aa s σ H Q I h) fun c s1 e=>?_);cases c with
 |false=>exact isTrue_or_nil e
 |true=>exact e
theorem jt(ha:PT X a tA)(hb:PW X (.BoolOp .And (b::rest) pos) DW):PW X (.BoolOp .And (a::b::rest) pos) (tAnd tA DW):=by
 intro wh aa s σ H Q I h;refine isTrue_and (thn (ha aa s σ H _ I h) fun c s1 zz=>?_);obtain⟨H1,I1,q1⟩:=zz;cases c with
 |true=>exact hb wh aa s1 σ H1 Q I1 q1
 |false=>exact⟨H1,I1,q1⟩
theorem e_(ha:PT X a tA)(hb:PW X (.BoolOp .Or (b::rest) pos) DW):PW X (.BoolOp .Or (a::b::rest) pos) (tOr tA DW):=by
 intro wh aa s σ H Q I h;refine isTrue_or (thn (ha aa s σ H _ I h) fun c s1 zz=>?_);obtain⟨H1,I1,q1⟩:=zz;cases c with
 |true=>exact⟨H1,I1,q1⟩
 |false=>exact hb wh aa s1 σ H1 Q I1 q1
theorem eJ(ha:PT X a tA):PT X (.UnaryOp .Not a pos) (tNot tA):=by
 intro aa s σ H Q I h;exact isTrue_not (ha aa s σ H (fun c H1=>Q (!c) H1) I h)
noncomputable def CP(ta tb:TE):TE:=fun σ H Q=>ta σ H fun x H1=>∃c,x=.bl c/\if c=true then tb σ H1 Q else Q (.bl false) H1
noncomputable def Cr(ta:TE):TE:=fun σ H Q=>ta σ H fun x H1=>∃c,x=.bl c/\Q (.bl (!c)) H1
theorem jE{op}{t:TE}(h:PE X a t):PE X (.BoolOp op [a] pos) t:=fun aa s σ H Q I hw=>BoolOp_one (h aa s σ H Q I hw)
theorem jq(ha:PE X a ta)(hb:PE X (.BoolOp .And (b::rest) pos) tb):PE X (.BoolOp .And (a::b::rest) pos) (CP ta tb):=by
 intro aa s σ H Q I h;refine BoolOp_and (thn (ha aa s σ H _ I h) fun v s1 zz=>?_);obtain⟨x,H1,I1,r1,q1⟩:=zz;obtain⟨c,rfl,q1⟩:=q1;cases r1;refine Ye ?_;cases c with
 |true=>exact hb aa s1 σ H1 Q I1 q1
 |false=>exact⟨.bl false,H1,I1,rfl,q1⟩
theorem lO(ha:PE X a ta):PE X (.UnaryOp .Not a pos) (Cr ta):=by
 intro aa s σ H Q I h;refine UnaryOp_ (thn (ha aa s σ H _ I h) fun v s1 zz=>?_);obtain⟨x,H1,I1,r1,q1⟩:=zz;obtain⟨c,rfl,q1⟩:=q1;cases r1;exact not_of (Ye ⟨.bl (!c),H1,I1,rfl,q1⟩)
noncomputable def tIf(t:TT)(ta tb:TE):TE:=fun σ H Q=>t σ H fun c H1=>if c=true then ta σ H1 Q else tb σ H1 Q
theorem qy{c:Expr}(hc:PT X c tA)(ha:PE X a ta)(hb:PE X b tb):PE X (.IfExp c a b pos) (tIf tA ta tb):=by
 intro aa s σ H Q I h;refine wpAny_IfExp (thn (hc aa s σ H _ I h) fun d s1 zz=>?_);obtain⟨H1,I1,q1⟩:=zz;cases d with
 |true=>exact ha aa s1 σ H1 Q I1 q1
 |false=>exact hb aa s1 σ H1 Q I1 q1
end
end L2
namespace L2
open PySem PySem.Spec PyProof.Rows
noncomputable def SqL(K:Z1)(H:Hp)(a:Addr)(xs:List V):Prop:=
 Rd H a (.lst xs)\/
  ∃(o:Obj) (f':Array Value) (n:Nat),K.lookup a=some o/\o.cls=.type "list"/\o.dict=none/\o.data=.seq f' n/\f'.size<=sizeLine/\aJ xs f'.toList
noncomputable def SqT(K:Z1)(H:Hp)(a:Addr)(xs:List V):Prop:=
 Rd H a (.tup xs)\/
  ∃(o:Obj) (f':Array Value) (n:Nat),K.lookup a=some o/\o.cls=.type "tuple"/\o.data=.seq f' n/\f'.size<=sizeLine/\aJ xs f'.toList
noncomputable def absV:Value->Option V
 | .none=>some .non
 | .bool b=>some (.bl b)
 | .int i _=>some (.int i)
 | .str x _=>some (.str x)
 | .bytes b _=>some (.byt b)
 | .float b _=>some (.flt b)
 | .ref a=>some (.ref a)
 | .type n=>some (.ty n)
 |_=>none
theorem RelV.abs{x:V}{u:Value}(r:RelV x u):absV u=some x:=by
 cases x with
 |non=>cases r;rfl
 |bl _=>cases r;rfl
 |int _=>obtain⟨t,rfl⟩:=r;rfl
 |str _=>obtain⟨t,rfl⟩:=r;rfl
 |byt _=>obtain⟨t,rfl⟩:=r;rfl
 |flt _=>obtain⟨t,rfl⟩:=r;rfl
 |ref _=>cases r;rfl
 |ty _=>cases r;rfl
theorem RelV.inj{x y:V}{u:Value}(r:RelV x u)(q:RelV y u):x=y:=Ze (r.abs.symm.trans q.abs)
theorem aJ.inj:∀{xs ys:List V} {us:List Value},aJ xs us->aJ ys us->xs=ys
 |_,_,_,.nil,.nil=>rfl
 |_,_,_,.cons r t,.cons r' t'=>by rw[r.inj r',aJ.inj t t']
section
variable{X:Cx}{aa:List (Addr×Obj)}{σ:St}{H:Hp}{s:Shared}{a:Addr}{xs ys:List V}
theorem SqL.of{K:Z1}(h:H a=some (.lst xs)):SqL K H a xs:=.inl (.inl h)
theorem SqT.of{K:Z1}(h:H a=some (.tup xs)):SqT K H a xs:=.inl (.inl h)
theorem Inv.list(I:Inv X aa σ H s)(h:SqL X.K H a xs):∃f':List Value,aJ xs f'/\PlainL s.heap a f'.toArray/\xs.length<=sizeLine:=by
 rcases h with h|⟨o,f',n,hk,hc,hd,hs,hz,r⟩
 ·obtain⟨z,f',n,r,e⟩:=h.ok I.hok;exact⟨f',r,⟨_,n,e,rfl,rfl,rfl⟩,z⟩
 ·refine⟨f'.toList,r,⟨o,n,I.kIn a o hk,hc,hd,by simpa using hs⟩,?_⟩
  have e:=r.length;simp only[ZY]at e;lia
theorem Inv.tuple(I:Inv X aa σ H s)(h:SqT X.K H a xs):∃f':List Value,aJ xs f'/\IsTup s.heap a f'.toArray/\xs.length<=sizeLine:=by
 rcases h with h|⟨o,f',n,hk,hc,hs,hz,r⟩
 ·obtain⟨z,f',r,p⟩:=h.ok I.hok;exact⟨f',r,p,z⟩
 ·refine⟨f'.toList,r,⟨o,I.kIn a o hk,hc,n,by simpa using hs⟩,?_⟩
  have e:=r.length;simp only[ZY]at e;lia
theorem Inv.list_inj(I:Inv X aa σ H s)(h:SqL X.K H a xs)(h':SqL X.K H a ys):xs=ys:=by
 obtain⟨f',r,⟨o,n,e,_,_,d⟩,_⟩:=I.list h;obtain⟨its',r',⟨o',n',e',_,_,d'⟩,_⟩:=I.list h';rw[e]at e';cases e';rw[d]at d';injection d' with d1 _
 have:f'=its':=by simpa using congrArg Ta d1
 subst this;exact r.inj r'
theorem Inv.tuple_inj(I:Inv X aa σ H s)(h:SqT X.K H a xs)(h':SqT X.K H a ys):xs=ys:=by
 obtain⟨f',r,⟨o,e,_,n,d⟩,_⟩:=I.tuple h;obtain⟨its',r',⟨o',e',_,n',d'⟩,_⟩:=I.tuple h';rw[e]at e';cases e';rw[d]at d';injection d' with d1 _
 have:f'=its':=by simpa using congrArg Ta d1
 subst this;exact r.inj r'
end
noncomputable abbrev Cx.wish(X:Cx)(E:Value->Shared->Prop):Cx:={X with xe:=E}
noncomputable abbrev Cx.nox(X:Cx):Cx:=X.wish fun _ _=>False
theorem Cx.Ok.wish{X:Cx}(ok:X.Ok)(E:Value->Shared->Prop):(X.wish E).Ok:=
 ⟨ok.mod,ok.kind,ok.glob,ok.blt,ok.above,ok.inj,ok.has,ok.cab,ok.hd,ok.frames,ok.stk,ok.exf,ok.bs,ok.bsz,ok.noex,ok.exfs,ok.funs,ok.frf⟩
theorem Cx.Ok.unwish{X:Cx}{E:Value->Shared->Prop}(ok:(X.wish E).Ok):X.Ok:=
 ⟨ok.mod,ok.kind,ok.glob,ok.blt,ok.above,ok.inj,ok.has,ok.cab,ok.hd,ok.frames,ok.stk,ok.exf,ok.bs,ok.bsz,ok.noex,ok.exfs,ok.funs,ok.frf⟩
section
variable{X:Cx}{aa:List (Addr×Obj)}{σ:St}{H:Hp}{s:Shared}{E:Value->Shared->Prop}
theorem Inv.wish(I:Inv X aa σ H s)(E:Value->Shared->Prop):Inv (X.wish E) aa σ H s:=⟨I.ok.wish E,I.os,I.bare,I.base,I.loc,I.cell,I.free,I.freeC,I.pin,I.hok,I.len⟩
theorem Inv.unwish(I:Inv (X.wish E) aa σ H s):Inv X aa σ H s:=⟨I.ok.unwish,I.os,I.bare,I.base,I.loc,I.cell,I.free,I.freeC,I.pin,I.hok,I.len⟩
theorem SP.unwish{D:iE}{f:Flow}{s':Shared}(h:SP (X.wish E) aa D f s'):SP X aa D f s':=by
 cases f with
 |next=>obtain⟨σ',H',I,q⟩:=h;exact⟨σ',H',I.unwish,q⟩
 |brk=>obtain⟨σ',H',I,q⟩:=h;exact⟨σ',H',I.unwish,q⟩
 |cont=>obtain⟨σ',H',I,q⟩:=h;exact⟨σ',H',I.unwish,q⟩
 |ret u=>obtain⟨v,σ',H',I,r,q⟩:=h;exact⟨v,σ',H',I.unwish,r,q⟩
theorem PSs.nox{st:List Stmt}{t:TS}(h:PSs X.nox st t):PSs X st t:=fun aa s σ H D I hw=>
 Y3 (h aa s σ H D (I.wish _) hw) (fun _ _ q=>q.unwish) fun _ _ z=>False.elim z
end
section
variable{X:Cx}{st:Stmt}{rest:List Stmt}{t u:TS}{e:Expr}{te:TE}{pos:Pos}
noncomputable def zg:TS:=fun D σ H=>D.nx σ H
noncomputable def tSeq(t u:TS):TS:=fun D σ H=>t {D with nx:=u D} σ H
theorem aQ:PSs X [] zg:=fun _ _ σ H _ I h=>Xh ⟨σ,H,I,h⟩
theorem ax(h1:PS X st t)(h2:PSs X rest u):PSs X (st::rest) (tSeq t u):=by
 intro aa s σ H D I h;refine Wu (thn (h1 aa s σ H {D with nx:=u D} I h) fun f s1 q=>?_)
 cases f with
 |next=>
  obtain⟨σ',H',I',q⟩:=q;exact h2 aa s1 σ' H' D I' q
 |ret v=>exact q
 |brk=>exact q
 |cont=>exact q
theorem ak(h1:PS X st t):PSs X [st] t:=by
 intro aa s σ H D I h;refine Wu (thn (h1 aa s σ H D I h) fun f s1 q=>?_);cases f with
 |next=>exact Xh q
 |ret v=>exact q
 |brk=>exact q
 |cont=>exact q
theorem Inv.quiet{aa:List (Addr×Obj)}{σ:St}{H:Hp}{s:Shared}(I:Inv X aa σ H s):interactive X.env=false:=by simp[interactive,I.ok.kind]
noncomputable def CN(te:TE):TS:=fun D σ H=>te σ H fun _ H1=>D.nx σ H1
theorem eX(he:PE X e te)(hs:swapsWith e none pos.line X.env=pure false:=by rfl):PS X (.Expr e pos) (CN te):=by
 intro aa s σ H D I h;exact UA (thn (he aa s σ H _ I h) fun v s1 ⟨x,H1,I1,r1,q1⟩=>⟨σ,H1,I1,q1⟩) I.quiet hs
noncomputable def yu(te:TE):TS:=fun D σ H=>te σ H D.rt
theorem aC(he:PE X e te):PS X (.Return (some e) pos) (yu te):=by
 intro aa s σ H D I h;exact wpAny_Return_some (thn (he aa s σ H _ I h) fun v s1 ⟨x,H1,I1,r1,q1⟩=>⟨x,σ,H1,I1,r1,q1⟩)
noncomputable def BC(c:TT)(t u:TS):TS:=fun D σ H=>c σ H fun b H1=>if b=true then t D σ H1 else u D σ H1
theorem bc{c:Expr}{a b:List Stmt}{tc:TT}(hc:PT X c tc)(ha:PSs X a t)(hb:PSs X b u):PS X (.If c a b pos) (BC tc t u):=by
 intro aa s σ H D I h;refine wpAny_If (thn (hc aa s σ H _ I h) fun d s1 zz=>?_);obtain⟨H1,I1,q1⟩:=zz;cases d with
 |true=>exact ha aa s1 σ H1 D I1 q1
 |false=>exact hb aa s1 σ H1 D I1 q1
noncomputable def BM:TS:=fun _ _ _=>False
theorem wv{sts:List Stmt}:PSs X sts BM:=fun _ _ _ _ _ _ h=>h.elim
end
noncomputable abbrev TG:=V->St->Hp->(St->Hp->Prop)->Prop
noncomputable abbrev TGs:=List V->St->Hp->(St->Hp->Prop)->Prop
noncomputable def PG(X:Cx)(target:Expr)(t:TG):Prop:=
 ∀(aa:List (Addr×Obj)) (s:Shared) (σ:St) (H:Hp) (v:V) (u:Value) (Q:St->Hp->Prop),Inv X aa σ H s->RelV v u->t v σ H Q->
  Zv (model X.prog X.w) X.A (assign target X.env u) (fun _ s'=>∃σ' H',Inv X aa σ' H' s'/\Q σ' H') X.xe s
noncomputable def PGs(X:Cx)(ts:List Expr)(t:TGs):Prop:=
 ∀(aa:List (Addr×Obj)) (s:Shared) (σ:St) (H:Hp) (vs:List V) (us:List Value) (Q:St->Hp->Prop),Inv X aa σ H s->aJ vs us->t vs σ H Q->
  Zv (model X.prog X.w) X.A (assignInOrder ((assignEach ts X.env).map (·.2)) us) (fun _ s'=>∃σ' H',Inv X aa σ' H' s'/\Q σ' H') X.xe s
section
variable{X:Cx}{pos:Pos}
noncomputable def bW(i:Nat):TG:=fun v σ H Q=>Q (σ.set i (some v)) H
theorem aI{i:Nat}{x:Str}(hN:X.N.Nodup)(hi:X.N[i]?=some x)(hx:Loc X.env.scope x)(hf:X.fn x=true\/X.env.scope.names.lookup x=some .local:=by first|exact .inl rfl|exact .inr rfl|assumption):PG X (.Name x pos) (bW i):=by
 intro aa s σ H v u Q I r h;exact U5 (i9 I hN hi hx r (fun s' I'=>⟨_,H,I',h⟩) hf)
noncomputable def xX:TGs:=fun vs σ H Q=>vs=[]/\Q σ H
noncomputable def lJ(t:TG)(u:TGs):TGs:=fun vs σ H Q=>∃v r,vs=v::r/\t v σ H fun σ' H'=>u r σ' H' Q
theorem gY:PGs X [] xX:=by
 intro aa s σ H vs us Q I r h;obtain⟨e,h⟩:=h;subst e;cases r;exact assignInOrder_nil ⟨σ,H,I,h⟩
theorem bD{e:Expr}{es:List Expr}{t:TG}{u:TGs}(h1:PG X e t)(h2:PGs X es u)
  (hs:(assignEach (e::es) X.env).map (·.2)=assign e X.env::(assignEach es X.env).map (·.2):=by rfl):PGs X (e::es) (lJ t u):=by
 intro aa s σ H vs us Q I r h;obtain⟨v,vr,e1,h⟩:=h;subst e1;cases r with
 |cons r rr=>
  rw[hs];refine assignInOrder_cons (thn (h1 aa s σ H _ _ _ I r h) fun _ s1 zz=>?_);obtain⟨σ1,H1,I1,q1⟩:=zz;exact h2 aa s1 σ1 H1 _ _ Q I1 rr q1
noncomputable def uo(K:Z1)(n:Nat)(t:TGs):TG:=fun v σ H Q=>∃a xs,v=.ref a/\SqT K H a xs/\xs.length=n/\t xs σ H Q
theorem qw{es:List Expr}{k:Nat}{t:TGs}{n:Nat}(hc:X.calm=true)(h:PGs X es t)
  (hn:(assignEach es X.env).length=n:=by rfl)(CZ:(assignEach es X.env).findIdx? (·.1)=none:=by rfl):PG X (.Tuple es k pos) (uo X.K n t):=by
 intro aa s σ H v u Q I r hw;obtain⟨a,xs,e1,hq,hl,hw⟩:=hw;subst e1;cases r;obtain⟨f',rv,ht,hz⟩:=I.tuple hq;refine assign_Tuple_tuple (I.ok.hd hc) ht (by simp[hn,<-hl,rv.length]) CZ fun h' hx=>?_
 have I1:Inv X aa σ H {s with heap:=h'}:=I.kept (t':=s.toks) fun b o e=>hx b o (Nat.ne_of_lt (Zu e)) e
 exact h aa _ σ H xs _ Q I1 (by simpa using rv) hw
noncomputable def gc(te:TE)(g:TG):TS:=fun D σ H=>te σ H fun x H1=>g x σ H1 D.nx
theorem BD{tg e:Expr}{te:TE}{g:TG}(he:PE X e te)(hg:PG X tg g)(hs:swapsWithSole [tg] e pos.line X.env=pure false:=by rfl)(hw:swappedStores [tg] e X.env=pure none:=by rfl)
  (h1:(assignEach [tg] X.env).map (·.2)=[assign tg X.env]:=by rfl):PS X (.Assign [tg] e pos) (gc te g):=by
 intro aa s σ H D I h;refine wpAny_Assign_stores (thn (he aa s σ H _ I h) fun v s1 zz=>?_) hs hw;obtain⟨x,H1,I1,r1,q1⟩:=zz;rw[h1];exact thn (hg aa s1 σ H1 x v _ I1 r1 q1) fun _ s2 q=>q
theorem qq{i:Nat}{x:Str}{e:Expr}{te:TE}{pos':Pos}(hN:X.N.Nodup)(hi:X.N[i]?=some x)(hx:Loc X.env.scope x)(he:PE X e te)(hs:swapsWith e (some (.Name x pos')) pos.line X.env=pure false:=by rfl)(hf:X.fn x=true\/X.env.scope.names.lookup x=some .local:=by first|exact .inl rfl|exact .inr rfl|assumption):
  PS X (.Assign [.Name x pos'] e pos) (gc te (bW i)):=by
 intro aa s σ H D I h;refine wpAny_Assign_Name (thn (he aa s σ H _ I h) fun v s1 zz=>?_) hs;obtain⟨y,H1,I1,r1,q1⟩:=zz;exact i9 I1 hN hi hx r1 (fun s2 I2=>⟨_,H1,I2,q1⟩) hf
theorem ay{X:Cx}{pos:Pos}{i:Nat}{x:Str}{e:Expr}{te:TE}{pos':Pos}(hN:X.N.Nodup)(he:PE X e te)(hi:X.N[i]?=some x:=by rfl)(hx:Loc X.env.scope x:=by first|exact ZQ rfl|exact TB rfl)(hs:swapsWith e (some (.Name x pos')) pos.line X.env=pure false:=by rfl)(hf:X.fn x=true\/X.env.scope.names.lookup x=some .local:=by first|exact .inl rfl|exact .inr rfl|assumption):PS X (.Assign [.Name x pos'] e pos) (gc te (bW i)):=qq hN hi hx he hs hf
end
section
variable{X:Cx}{pos:Pos}
noncomputable def BS(c:TT)(tb:TS):TS:=fun D σ H=>∃W:Nat->St->Hp->Prop,(∃m,W m σ H)/\∀m σ H,W m σ H->
 c σ H fun b H1=>if b=true then ∃N:St->Hp->Prop,(∀σ' H',N σ' H'->∃m',m'<m/\W m' σ' H')/\tb {D with nx:=N,ct:=N,bk:=D.nx} σ H1 else D.nx σ H1
theorem k9{c:Expr}{body:List Stmt}{tc:TT}{tb:TS}(hp:PassesOwn (model X.prog X.w) X.A X.env X.xe)(hc:PT X c tc)(hb:PSs X body tb):PS X (.While c body [] pos) (BS tc tb):=by
 intro aa s σ H D I h;obtain⟨W,⟨m0,w0⟩,turn⟩:=h;refine wpAny_While (codeAny_whileLoop (fun n s'=>∃σ' H',Inv X aa σ' H' s'/\W n σ' H') ?_ m0 ⟨σ,H,I,w0⟩);rintro n s1 ⟨σ1,H1,I1,w1⟩;refine X_ hp (thn (hc aa s1 σ1 H1 _ I1 (turn n σ1 H1 w1)) fun b s2 zz=>?_);obtain⟨H2,I2,q2⟩:=zz;cases b with
 |true=>
  obtain⟨N,hN,q2⟩:=q2;rw[if_pos rfl];refine X_ hp (thn (hb aa s2 σ1 H2 _ I2 q2) fun f s3 q3=>?_);cases f with
  |next=>
   obtain⟨σ3,H3,I3,n3⟩:=q3;obtain⟨m',hm,w3⟩:=hN σ3 H3 n3;exact⟨m',hm,σ3,H3,I3,w3⟩
  |cont=>
   obtain⟨σ3,H3,I3,n3⟩:=q3;obtain⟨m',hm,w3⟩:=hN σ3 H3 n3;exact⟨m',hm,σ3,H3,I3,w3⟩
  |brk=>exact q3
  |ret v=>exact q3
 |false=>
  rw[if_neg Zs];exact Xh ⟨σ1,H2,I2,q2⟩
end
structure It where
 go:Nat->Hp->Prop
 yld:Nat->Hp->V->Hp->Prop
 stop:Nat->Hp->Prop
noncomputable def jP(X:Cx)(aa:List (Addr×Obj))(H:Hp)(b:Addr):Prop:=
 H b=none/\b≠X.env.locals/\b∉X.fs/\(b∈X.ex\/X.s₀.heap.objs.size<=b)/\(∀x c,X.env.cells.lookup x=some c->c≠b)/\∀p∈X.pn++aa,p.1≠b
theorem Inv.fpOk{X:Cx}{aa:List (Addr×Obj)}{σ:St}{H H':Hp}{s:Shared}{b:Addr}(I:Inv X aa σ H s)(hb:s.heap.objs.size<=b)(hn:H' b=none):jP X aa H' b:=by
 refine⟨hn,Nat.ne_of_gt (Nat.lt_of_lt_of_le I.lt hb),I.nofs hb,.inr (Nat.le_trans I.sz hb),fun x c e z=>?_,fun p hp z=>?_⟩
 ·obtain⟨v,q⟩:=I.cell x c e;exact absurd (Nat.lt_of_lt_of_le q.lt (by rw[z];exact hb)) (Nat.lt_irrefl _)
 ·exact absurd (Nat.lt_of_lt_of_le (Zu (I.pin p hp).1) (by rw[z];exact hb)) (Nat.lt_irrefl _)
structure mP(P:Zy)(w:Zm)(K:Z1)(tg:Expr)(J:It)(fp:List Addr)(it:Addr)(tn:Nat->ZE->Prop):Prop where
 mem:it∈fp
 obj:∀i h,tn i h->∀b∈fp,∃o,h.get? b=some o/\∀v,o.data≠.cell v
 keep:∀i h h',tn i h->(∀b∈fp,∀o,h.get? b=some o->h'.get? b=some o)->tn i h'
 item:∀(X:Cx),X.prog=P->X.w=w->X.K=K->X.calm=true->∀(i:Nat) (aa:List (Addr×Obj)) (s:Shared) (σ:St) (H:Hp) (E:Value->Shared->Prop),Inv X aa σ H s->(∀b∈fp,jP X aa H b)->tn i s.heap->J.go i H->
  Zv (model P w) X.A (pyNext (.ref it)) (fun r s1=>∃u,r=some u/\
   Zv (model P w) X.A (letOwnedTupleGo tg (.ref it) u) (fun _ s2=>∃x H',Inv X aa σ H' s2/\RelV x u/\J.yld i H x H'/\tn (i+1) s2.heap/\∀b∈fp,H' b=none) E s1) E s
 done:∀(X:Cx),X.prog=P->X.w=w->X.K=K->X.calm=true->∀(i:Nat) (aa:List (Addr×Obj)) (s:Shared) (σ:St) (H:Hp) (E:Value->Shared->Prop),Inv X aa σ H s->(∀b∈fp,jP X aa H b)->tn i s.heap->J.stop i H->
  Zv (model P w) X.A (pyNext (.ref it)) (fun r s1=>r=none/\Inv X aa σ H s1) E s
 self:∀(A:ZT) (i:Nat) (s:Shared) (Q:Value->Shared->Prop) (E:Value->Shared->Prop),tn i s.heap->Q (.ref it) s->Zv (model P w) A (pyIter (.ref it)) Q E s
noncomputable abbrev TI:=St->Hp->(It->Hp->Prop)->Prop
noncomputable def PIE(X:Cx)(aa:List (Addr×Obj))(σ:St)(tg:Expr)(R:It->Hp->Prop)(E5:Value)(s2:Shared):Prop:=
 ∃(it:Addr) (fp:List Addr) (tn:Nat->ZE->Prop) (J:It) (H':Hp),E5=.ref it/\Inv X aa σ H' s2/\mP X.prog X.w X.K tg J fp it tn/\tn 0 s2.heap/\(∀b∈fp,jP X aa H' b)/\R J H'
noncomputable def PI(X:Cx)(tg iter:Expr)(wi:TI):Prop:=
 ∀(aa:List (Addr×Obj)) (s:Shared) (σ:St) (H:Hp) (R:It->Hp->Prop),Inv X aa σ H s->wi σ H R->
  Zv (model X.prog X.w) X.A (eval iter X.env) (fun v s1=>Zv (model X.prog X.w) X.A (pyIter v) (PIE X aa σ tg R) X.xe s1) X.xe s
theorem tN{M:Tf}{A:ZT}{E:Value->Shared->Prop}{s:Shared}{tg:Expr}{it:Addr}{u:Value}{o:Obj}{n:String}{vs:Array Value}{Q:Unit->Shared->Prop}(ho:s.heap.get? it=some o)(hc:o.cls=.type n)(hd:o.data=.fields vs)
  (hn:["enumerate","zip","dict_itemiterator","dict_reverseitemiterator","odict_iterator","itertools.zip_longest","itertools.pairwise"].contains n=false)(hQ:Q () s):Zv M A (letOwnedTupleGo tg (.ref it) u) Q E s:=by
 unfold letOwnedTupleGo;cases tg<;>first
  |exact Z6 hQ
  | (cases u<;>first
    |exact Z6 hQ
    | (refine Z0 (wpAny_load ho ?_)
       rw[hc,hd];show Zv M A (if (["enumerate","zip","dict_itemiterator","dict_reverseitemiterator","odict_iterator","itertools.zip_longest","itertools.pairwise"].contains n&&vs[0]? == some (Xb _))=true then _ else _) Q E s
       rw[if_neg (by intro h;rw[hn,UB]at h;cases h)]
       exact Z6 hQ))
noncomputable def Itl(K:Z1)(a:Addr):It:=
 ⟨fun i H=>∃xs x,SqL K H a xs/\xs[i]?=some x,fun i H x H'=>H'=H/\∀xs,SqL K H a xs->xs[i]?=some x,fun i H=>∃xs,SqL K H a xs/\xs.length<=i⟩
noncomputable def Itr(lo:Int)(n:Nat):It:=⟨fun i _=>i<n,fun i H x H'=>H'=H/\x=.int (lo+i),fun i _=>n<=i⟩
theorem v0{P:Zy}{w:Zm}{K:Z1}{tg:Expr}(a it:Addr):mP P w K tg (Itl K a) [it] it (fun i h=>h.IsListIter it a i) where
 mem:=by simp
 obj:=fun i h st b hb=>by
  have e:b=it:=by simpa using hb
  subst e;obtain⟨o,e,c,d⟩:=st;exact⟨o,e,fun v z=>by rw[d]at z;cases z⟩
 keep:=fun i h h' st k=>st.at fun o e=>k it (by simp) o e
 item:=by
  intro X hP hw hK hc i aa s σ H E I hf st hg;subst hP hw hK;obtain⟨xs,x,hq,hx⟩:=hg;obtain⟨f',rv,p,hz⟩:=I.list hq;obtain⟨u,hu,ru⟩:=rv.get hx;obtain⟨f0,f1,f2,f3,f4,f5⟩:=hf it (by simp)
  refine wpAny_pyNext_list_item st p.isList (x:=u) (by simpa using hu) fun h' st' sb=>?_
  have I1:Inv X aa σ H {s with heap:=h'}:=I.turned (t':=s.toks) (fun b o hb e=>(sb.2 b hb).trans e) f0 f1 f3 f4 f5
  obtain⟨o,e,c,d⟩:=id st';exact⟨u,rfl,tN (s:={s with heap:=h'}) e c d (by decide) ⟨x,H,I1,ru,⟨rfl,fun ys hy=>by rw[I.list_inj hy hq];exact hx⟩,st',fun b hb=>(hf b hb).1⟩⟩
 done:=by
  intro X hP hw hK hc i aa s σ H E I hf st hg;subst hP hw hK;obtain⟨xs,hq,hx⟩:=hg;obtain⟨f',rv,p,hz⟩:=I.list hq;obtain⟨f0,f1,f2,f3,f4,f5⟩:=hf it (by simp)
  have hl:=rv.length;exact wpAny_pyNext_list_end (I.ok.hd hc) st p.isList (by simp;lia) fun h' eb=>⟨rfl,I.turned (t':=s.toks) (fun b o hb e=>eb b o hb e) f0 f1 f3 f4 f5⟩
 self:=fun _ _ _ _ _ st h=>wpAny_pyIter_listiter st h
theorem ua{P:Zy}{w:Zm}{K:Z1}{tg:Expr}(it:Addr)(lo:Int)(n:Nat):mP P w K tg (Itr lo n) [it] it (fun i h=>TY h it (lo+(i:Nat)*1) ((n:Int)-(i:Nat)) 1) where
 mem:=by simp
 obj:=fun i h st b hb=>by
  have e:b=it:=by simpa using hb
  subst e;exact⟨_,st,fun v z=>by
   have z':Data.fields _=Data.cell v:=z;cases z'⟩
 keep:=fun i h h' st k=>k it (by simp) _ st
 item:=by
  intro X hP hw hK hc i aa s σ H E I hf st hg;subst hP hw hK;obtain⟨f0,f1,f2,f3,f4,f5⟩:=hf it (by simp)
  have W:=Walks.range (prog:=X.prog) (w:=X.w) (I.ok.hd hc) it lo 1 n;refine W.item i s _ _ hg st fun v h' tk hv st' kk=>?_;obtain⟨t,rfl⟩:=hv;have I1:Inv X aa σ H {s with heap:=h',toks:=tk}:=I.turned (fun b o hb e=>kk b o (by simpa using hb) e) f0 f1 f3 f4 f5
  refine⟨_,rfl,tN (s:={s with heap:=h',toks:=tk}) (n := "range_iterator") st' rfl rfl (by decide) ⟨.int (lo+i),H,I1,⟨t,?_⟩,⟨rfl,rfl⟩,st',fun b hb=>(hf b hb).1⟩⟩
  rw[Int.mul_one]
 done:=by
  intro X hP hw hK hc i aa s σ H E I hf st hg;subst hP hw hK;obtain⟨f0,f1,f2,f3,f4,f5⟩:=hf it (by simp)
  exact wpAny_pyNext_range_end (I.ok.hd hc) st (by have:n<=i:=hg;lia) fun h' eb=>⟨rfl,I.turned (t':=s.toks) (fun b o hb e=>eb b o hb e) f0 f1 f3 f4 f5⟩
 self:=fun _ _ _ _ _ st h=>wpAny_pyIter_rangeiter st h
end L2
namespace L2
open PySem PySem.Spec PyProof.Rows
section
variable{X:Cx}{tg:Expr}
noncomputable def oM(K:Z1)(tl:TE):TI:=fun σ H R=>tl σ H fun x H1=>∃a,x=.ref a/\(∃xs,SqL K H1 a xs)/\R (Itl K a) H1
theorem b9{l:Expr}{tl:TE}(hl:PE X l tl):PI X tg l (oM X.K tl):=by
 intro aa s σ H R I h;refine thn (hl aa s σ H _ I h) fun v s1 zz=>?_;obtain⟨x,H1,I1,r1,q1⟩:=zz;obtain⟨a,e,⟨xs,hq⟩,q⟩:=q1;subst e;cases r1;obtain⟨f',rv,p,hz⟩:=I1.list hq;refine XC p.isList ?_;refine⟨s1.heap.objs.size,[s1.heap.objs.size],_,_,H1,rfl,I1.kept (t':=s1.toks) fun b o e=>Z_ _ e,v0 a _,⟨_,Zl _ rfl,rfl,rfl⟩,fun b hb=>?_,q⟩;have e:b=s1.heap.objs.size:=by simpa using hb
 subst e;exact I1.fpOk (Nat.le_refl _) (I1.hok.fresh (Nat.le_refl _))
theorem qc{aa:List (Addr×Obj)}{σ:St}{H:Hp}{s:Shared}{R:It->Hp->Prop}{E:Value->Shared->Prop}{lo hi:Int}{t u v:Tok}{tk:Nat}(I:Inv X aa σ H s)(h1:-(2^62)<=lo)(h2:lo<2^62)(h3:-(2^62)<=hi)(h4:hi<2^62)
  (q:R (Itr lo (hi-lo).toNat) H):Zv (model X.prog X.w) X.A (pyIter (.ref s.heap.objs.size)) (PIE X aa σ tg R) E {s with heap:=s.heap.push {cls:=.type "range",data:=.fields #[.int lo t,.int hi u,.int 1 v]},toks:=tk}:=by
 refine wpAny_pyIter_range (IsRange.new ..) (small_one h1 h2 h3 h4) ?_;have I1:Inv X aa σ H {s with heap:=s.heap.push {cls:=.type "range",data:=.fields #[.int lo t,.int hi u,.int 1 v]},toks:=tk}:=I.kept fun b o e=>Z_ _ e
 refine⟨(s.heap.push {cls:=.type "range",data:=.fields #[.int lo t,.int hi u,.int 1 v]}).objs.size,[(s.heap.push {cls:=.type "range",data:=.fields #[.int lo t,.int hi u,.int 1 v]}).objs.size],_,_,H,rfl,
  I1.kept (t':=tk) fun b o e=>Z_ _ e,ua _ lo (hi-lo).toNat,?_,fun b hb=>?_,q⟩
 ·have e1:lo+((0:Nat):Int)*1=lo:=by simp
  have e2:(((hi-lo).toNat:Nat):Int)-((0:Nat):Int)=Te lo hi 1:=by rw[rangeSize_one];split<;>lia
  show TY _ _ (lo+((0:Nat):Int)*1) ((((hi-lo).toNat:Nat):Int)-((0:Nat):Int)) 1;rw[e1,e2];exact Zl _ rfl
 ·have e:b=(s.heap.push {cls:=.type "range",data:=.fields #[.int lo t,.int hi u,.int 1 v]}).objs.size:=by simpa using hb
  subst e;exact I1.fpOk (Nat.le_refl _) (I1.hok.fresh (Nat.le_refl _))
noncomputable def CC(ta:TA):TI:=fun σ H R=>ta σ H fun vs H1=>∃j:Int,vs=[.int j]/\-(2^62)<=j/\j<2^62/\R (Itr 0 j.toNat) H1
noncomputable def Cz(ta:TA):TI:=fun σ H R=>ta σ H fun vs H1=>∃i j:Int,vs=[.int i,.int j]/\(-(2^62)<=i/\i<2^62/\-(2^62)<=j/\j<2^62)/\R (Itr i (j-i).toNat) H1
theorem dH{a:Expr}{ta:TA}{p pos:Pos}(hg:Gl X "range")(hm:X.mg "range" = none)(ha:PA X [a] ta)(hs:Zn [a] X.env=[(false,eval a X.env)]:=by rfl):PI X tg (.Call (.Name "range" p) [a] [] pos) (CC ta):=by
 intro aa s σ H R I h;refine Call_ (fm I hg hm boot_range (ZZ (thn (ha pos aa s σ H _ I h) fun us s1 zz=>?_) hs rfl));obtain⟨vs,H1,I1,r1,q1⟩:=zz;obtain⟨j,e,q1,q2,q⟩:=q1;subst e;cases r1 with
 |cons r rr=>
  cases rr;obtain⟨t,rfl⟩:=r;exact call_range_1 (qc I1 (by lia) (by lia) q1 q2 (by simpa using q))
theorem nF{a b:Expr}{ta:TA}{p pos:Pos}(hg:Gl X "range")(hm:X.mg "range" = none)(ha:PA X [a,b] ta)(hs:Zn [a,b] X.env=[(false,eval a X.env),(false,eval b X.env)]:=by rfl)(DO:Zn [b] X.env=[(false,eval b X.env)]:=by rfl):
  PI X tg (.Call (.Name "range" p) [a,b] [] pos) (Cz ta):=by
 intro aa s σ H R I h;refine Call_ (fm I hg hm boot_range (ZZ (thn (ha pos aa s σ H _ I h) fun us s1 zz=>?_) (by rw[hs,DO]) (by rw[DO];rfl)))
 obtain⟨vs,H1,I1,r1,q1⟩:=zz;obtain⟨i,j,e,⟨q1,q2,q3,q4⟩,q⟩:=q1;subst e;cases r1 with
 |cons r rr=>
  cases rr with
  |cons r' rr=>
   cases rr;obtain⟨t,rfl⟩:=r;obtain⟨t',rfl⟩:=r';exact call_range_2 (qc I1 q1 q2 q3 q4 q)
noncomputable def Bj(wi:TI)(g:TG)(tb:TS):TS:=fun D σ H=>wi σ H fun J H1=>∃W:Nat->Nat->St->Hp->Prop,(∃m,W 0 m σ H1)/\∀i m σ H,W i m σ H->
 (J.stop i H/\D.nx σ H)\/(J.go i H/\∃N:St->Hp->Prop,(∀σ' H',N σ' H'->∃m',m'<m/\W (i+1) m' σ' H')/\∀x H',J.yld i H x H'->g x σ H' fun σ2 H2=>tb {D with nx:=N,ct:=N,bk:=D.nx} σ2 H2)
noncomputable def jC(fp:List Addr)(h:ZE):List (Addr×Obj):=fp.filterMap fun b=>(h.get? b).map fun o=>(b,o)
theorem iT{fp:List Addr}{h:ZE}{b:Addr}{o:Obj}(hb:b∈fp)(e:h.get? b=some o):(b,o)∈jC fp h:=Xm.mpr ⟨b,hb,by rw[e];rfl⟩
theorem wL{fp:List Addr}{h:ZE}{p:Addr×Obj}(hp:p∈jC fp h):p.1∈fp/\h.get? p.1=some p.2:=by
 obtain⟨b,hb,e⟩:=Xm.mp hp;cases q:h.get? b with
 |none=>rw[q]at e;cases e
 |some o=>
  rw[q]at e;have e':(b,o)=p:=Ze e;subst e';exact⟨hb,q⟩
theorem Inv.pinned{aa:List (Addr×Obj)}{σ:St}{H:Hp}{s:Shared}{fp:List Addr}(I:Inv X aa σ H s)(hf:∀b∈fp,jP X aa H b)(ho:∀b∈fp,∃o,s.heap.get? b=some o/\∀v,o.data≠.cell v):Inv X (aa++jC fp s.heap) σ H s:=
 I.pins_of fun p hp=>(ZH.mp hp).elim (fun z=>I.pin p (Zb _ z)) fun z=>by
  obtain⟨hb,e⟩:=wL z;obtain⟨f0,f1,f2,_⟩:=hf p.1 hb;obtain⟨o,e',d⟩:=ho p.1 hb;rw[e]at e';cases e';exact⟨e,f0,f1,f2,d⟩
theorem Inv.unpinned{aa pl:List (Addr×Obj)}{σ:St}{H:Hp}{s:Shared}(I:Inv X (aa++pl) σ H s):Inv X aa σ H s:=I.pins_of fun p hp=>I.pin p (Zb _ (XG _ hp))
theorem dF{iter:Expr}{body:List Stmt}{wi:TI}{g:TG}{tb:TS}{pos:Pos}(hp:PassesOwn (model X.prog X.w) X.A X.env X.xe)(hc:X.calm=true)(hi:PI X tg iter wi)(hg:PG X tg g)(hb:PSs X body tb)
  (hs:∀x,foldedSetIterable iter X.env x=pure x:=by intro _;rfl):PS X (.For tg iter body [] pos) (Bj wi g tb):=by
 intro aa s σ H D I h;refine wpAny_For (thn (hi aa s σ H _ I h) fun v s1 h1=>thn h1 fun E5 s2 h2=>?_) hs;obtain⟨it,fp,tn,J,H2,e,I2,T,Dp,f2,W,⟨m0,w0⟩,turn⟩:=h2;subst e;have stat:∀{H':Hp},(∀b∈fp,H' b=none)->∀b∈fp,jP X aa H' b:=fun hn b hb=>⟨hn b hb,(f2 b hb).2⟩;refine codeAny_forLoop_any (fun n s'=>∃i σ' H',Inv X aa σ' H' s'/\tn i s'.heap/\(∀b∈fp,H' b=none)/\W i n σ' H') ?_ m0 ⟨0,σ,H2,I2,Dp,fun b hb=>(f2 b hb).1,w0⟩;rintro n s3 ⟨i,σ3,H3,I3,st3,fr3,w3⟩;rcases turn i n σ3 H3 w3 with ⟨stop,qn⟩|⟨go,N,hN,step⟩
 ·refine X_ hp (thn (T.done X rfl rfl rfl hc i aa s3 σ3 H3 X.xe I3 (stat fr3) st3 stop) fun r s4 zz=>?_);obtain⟨hr,I4⟩:=zz;subst hr;exact Xh ⟨σ3,H3,I4,qn⟩
 ·refine X_ hp (thn (T.item X rfl rfl rfl hc i aa s3 σ3 H3 X.xe I3 (stat fr3) st3 go) fun r s4 zz=>?_);obtain⟨u,hr,h4⟩:=zz;subst hr;refine X_ hp (thn h4 fun _ s5 zz=>?_);obtain⟨x,H5,I5,r5,y5,st5,fr5⟩:=zz;have I5':=I5.pinned (stat fr5) (T.obj _ _ st5);refine X_ hp (thn (hg _ s5 σ3 H5 x u _ I5' r5 (step x H5 y5)) fun _ s6 zz=>?_);obtain⟨σ6,H6,I6,q6⟩:=zz;refine X_ hp (thn (hb _ s6 σ6 H6 _ I6 q6) fun f s7 q7=>?_);have again:∀{σ7:St} {H7:Hp},Inv X (aa++jC fp s5.heap) σ7 H7 s7->N σ7 H7->∃m,m<n/\∃i σ' H',Inv X aa σ' H' s7/\tn i s7.heap/\(∀b∈fp,H' b=none)/\W i m σ' H':=fun {σ7 H7} I7 n7=>by
   obtain⟨m',hm,w7⟩:=hN σ7 H7 n7;refine⟨m',hm,i+1,σ7,H7,I7.unpinned,T.keep _ _ _ st5 fun b hb o e=>(I7.pin (b,o) (Zb _ (Zb _ (iT hb e)))).1,fun b hb=>?_,w7⟩;obtain⟨o,e,d⟩:=T.obj _ _ st5 b hb;exact (I7.pin (b,o) (Zb _ (Zb _ (iT hb e)))).2.1
  cases f with
  |next=>obtain⟨σ7,H7,I7,n7⟩:=q7;exact again I7 n7
  |cont=>obtain⟨σ7,H7,I7,n7⟩:=q7;exact again I7 n7
  |brk=>obtain⟨σ7,H7,I7,q7⟩:=q7;exact⟨σ7,H7,I7.unpinned,q7⟩
  |ret v=>obtain⟨x7,σ7,H7,I7,r7,q7⟩:=q7;exact⟨x7,σ7,H7,I7.unpinned,r7,q7⟩
end
theorem i3{K:Z1}{a:Addr}{xs:List V}{g:TG}{tb:TS}{D:iE}{σ:St}{H:Hp}(Pv:Nat->St->Hp->Prop)(h0:Pv 0 σ H)(hl:∀i σ H,i<=xs.length->Pv i σ H->SqL K H a xs)
  (hs:∀i x σ H,xs[i]?=some x->Pv i σ H->g x σ H fun σ2 H2=>tb {D with nx:=Pv (i+1),ct:=Pv (i+1),bk:=D.nx} σ2 H2)(hd:∀σ H,Pv xs.length σ H->D.nx σ H):
  ∃W:Nat->Nat->St->Hp->Prop,(∃m,W 0 m σ H)/\∀i m σ H,W i m σ H->
   ((Itl K a).stop i H/\D.nx σ H)\/((Itl K a).go i H/\∃N:St->Hp->Prop,(∀σ' H',N σ' H'->∃m',m'<m/\W (i+1) m' σ' H')/\∀x H',(Itl K a).yld i H x H'->g x σ H' fun σ2 H2=>tb {D with nx:=N,ct:=N,bk:=D.nx} σ2 H2):=by
 refine⟨fun i m σ H=>m=xs.length-i/\i<=xs.length/\Pv i σ H,⟨xs.length,by simp,Nat.zero_le _,h0⟩,?_⟩
 rintro i m σ H ⟨rfl,hi,p⟩;have q:=hl i σ H hi p;by_cases C_:i<xs.length
 ·refine .inr ⟨⟨xs,xs[i],q,by simp[C_]⟩,Pv (i+1),fun σ' H' p'=>⟨xs.length-(i+1),by lia,rfl,C_,p'⟩,fun x H' y=>?_⟩
  obtain⟨e,y⟩:=y;subst e;exact hs i x σ _ (y xs q) p
 ·have e:i=xs.length:=by lia
  subst e;exact .inl ⟨⟨xs,q,Nat.le_refl _⟩,hd σ H p⟩
theorem fJ{lo:Int}{n:Nat}{g:TG}{tb:TS}{D:iE}{σ:St}{H:Hp}(Pv:Nat->St->Hp->Prop)(h0:Pv 0 σ H)
  (hs:∀i σ H,i<n->Pv i σ H->g (.int (lo+i)) σ H fun σ2 H2=>tb {D with nx:=Pv (i+1),ct:=Pv (i+1),bk:=D.nx} σ2 H2)(hd:∀σ H,Pv n σ H->D.nx σ H):
  ∃W:Nat->Nat->St->Hp->Prop,(∃m,W 0 m σ H)/\∀i m σ H,W i m σ H->
   ((Itr lo n).stop i H/\D.nx σ H)\/((Itr lo n).go i H/\∃N:St->Hp->Prop,(∀σ' H',N σ' H'->∃m',m'<m/\W (i+1) m' σ' H')/\∀x H',(Itr lo n).yld i H x H'->g x σ H' fun σ2 H2=>tb {D with nx:=N,ct:=N,bk:=D.nx} σ2 H2):=by
 refine⟨fun i m σ H=>m=n-i/\i<=n/\Pv i σ H,⟨n,by simp,Nat.zero_le _,h0⟩,?_⟩
 rintro i m σ H ⟨rfl,hi,p⟩;by_cases C_:i<n
 ·refine .inr ⟨C_,Pv (i+1),fun σ' H' p'=>⟨n-(i+1),by lia,rfl,C_,p'⟩,fun x H' y=>?_⟩
  obtain⟨e,y⟩:=y;subst e y;exact hs i σ _ C_ p
 ·have e:i=n:=by lia
  subst e;exact .inl ⟨Nat.le_refl _,hd σ H p⟩
end L2
namespace L2
open PySem PySem.Spec PyProof.Rows
noncomputable abbrev R2:=V->V->Hp->VK->Prop
noncomputable def OpR(X:Cx)(f:Value->Value->Sem Value)(r:R2):Prop:=
 ∀(aa:List (Addr×Obj)) (s:Shared) (σ:St) (H:Hp) (x y:V) (v u:Value) (Q:VK),Inv X aa σ H s->RelV x v->RelV y u->r x y H Q->
  Zv (model X.prog X.w) X.A (f v u) (EP X aa σ Q) X.xe s
noncomputable def UnR(X:Cx)(f:Value->Sem Value)(r:V->Hp->VK->Prop):Prop:=
 ∀(aa:List (Addr×Obj)) (s:Shared) (σ:St) (H:Hp) (x:V) (v:Value) (Q:VK),Inv X aa σ H s->RelV x v->r x H Q->
  Zv (model X.prog X.w) X.A (f v) (EP X aa σ Q) X.xe s
noncomputable def cZ(X:Cx)(f:Value)(r:List V->Hp->VK->Prop):Prop:=
 ∀(aa:List (Addr×Obj)) (s:Shared) (σ:St) (H:Hp) (xs:List V) (us:List Value) (Q:VK),Inv X aa σ H s->aJ xs us->r xs H Q->
  Zv (model X.prog X.w) X.A (call f us) (EP X aa σ Q) X.xe s
noncomputable def tOp(r:R2)(ta tb:TE):TE:=fun σ H Q=>ta σ H fun x H1=>tb σ H1 fun y H2=>r x y H2 Q
noncomputable def tUn(r:V->Hp->VK->Prop)(ta:TE):TE:=fun σ H Q=>ta σ H fun x H1=>r x H1 Q
noncomputable def rI(C:Int->Int->Prop)(g:Int->Int->V):R2:=fun x y H Q=>∃i j,x=.int i/\y=.int j/\C i j/\Q (g i j) H
noncomputable def rI0(g:Int->Int->V):R2:=fun x y H Q=>∃i j,x=.int i/\y=.int j/\Q (g i j) H
noncomputable def rU(g:Int->V):V->Hp->VK->Prop:=fun x H Q=>∃i,x=.int i/\Q (g i) H
section
variable{X:Cx}{a b c:Expr}{ta tb tc:TE}{pos:Pos}
theorem xm(ha:PE X a ta)(hb:PE X b tb){aa:List (Addr×Obj)}{s:Shared}{σ:St}{H:Hp}{R:V->V->Hp->Prop}(I:Inv X aa σ H s)
  (h:ta σ H fun x H1=>tb σ H1 fun y H2=>R x y H2){Q:Value->Shared->Prop}{f:Value->Value->Sem Value}
  (hf:∀v u s2 x y H2,Inv X aa σ H2 s2->RelV x v->RelV y u->R x y H2->Zv (model X.prog X.w) X.A (f v u) Q X.xe s2):
  Zv (model X.prog X.w) X.A (eval a X.env) (fun v s₁=>Zv (model X.prog X.w) X.A (eval b X.env) (fun u s₂=>Zv (model X.prog X.w) X.A (f v u) Q X.xe s₂) X.xe s₁) X.xe s:=by
 refine thn (ha aa s σ H _ I h) fun v s1 zz=>?_;obtain⟨x,H1,I1,r1,q1⟩:=zz;refine thn (hb aa s1 σ H1 _ I1 q1) fun u s2 zz=>?_;obtain⟨y,H2,I2,r2,q2⟩:=zz;exact hf v u s2 x y H2 I2 r1 r2 q2
theorem ag{op:Operator}{r:R2}(ho:OpR X (binaryOp op) r)(ha:PE X a ta)(hb:PE X b tb):PE X (.BinOp a op b pos) (tOp r ta tb):=by
 intro aa s σ H Q I h;exact wpAny_BinOp (xm ha hb I h fun v u s2 x y H2 I2 rx ry q=>ho aa s2 σ H2 x y v u Q I2 rx ry q)
theorem oH{op:UnaryOp}{r:V->Hp->VK->Prop}(ho:UnR X (unaryOp op) r)(ha:PE X a ta):PE X (.UnaryOp op a pos) (tUn r ta):=by
 intro aa s σ H Q I h;exact UnaryOp_ (thn (ha aa s σ H _ I h) fun v s1 ⟨x,H1,I1,r1,q1⟩=>ho aa s1 σ H1 x v Q I1 r1 q1)
theorem opI{f:Value->Value->Sem Value}{C:Int->Int->Prop}{g:Int->Int->Int}
  (rule:∀(i j:Int) (t u:Tok) (s:Shared) (Q:Value->Shared->Prop) (E:Value->Shared->Prop),C i j->Q (.int (g i j) s.toks) {s with toks:=s.toks+1}->Zv (model X.prog X.w) X.A (f (.int i t) (.int j u)) Q E s):
  OpR X f (rI C fun i j=>.int (g i j)):=by
 intro aa s σ H x y v u Q I rx ry h;obtain⟨i,j,rfl,rfl,hc,q⟩:=h;obtain⟨t,rfl⟩:=rx;obtain⟨t',rfl⟩:=ry;exact rule i j t t' s _ _ hc ⟨.int (g i j),H,I.tok _,⟨_,rfl⟩,q⟩
theorem B3{f:Value->Value->Sem Value}{g:Int->Int->Int}
  (rule:∀(i j:Int) (t u:Tok) (s:Shared) (Q:Value->Shared->Prop) (E:Value->Shared->Prop),Q (.int (g i j) s.toks) {s with toks:=s.toks+1}->Zv (model X.prog X.w) X.A (f (.int i t) (.int j u)) Q E s):
  OpR X f (rI0 fun i j=>.int (g i j)):=by
 intro aa s σ H x y v u Q I rx ry h;obtain⟨i,j,rfl,rfl,q⟩:=h;obtain⟨t,rfl⟩:=rx;obtain⟨t',rfl⟩:=ry;exact rule i j t t' s _ _ ⟨.int (g i j),H,I.tok _,⟨_,rfl⟩,q⟩
theorem tJ{f:Value->Value->Sem Value}{g:Int->Int->Bool}
  (rule:∀(i j:Int) (t u:Tok) (s:Shared) (Q:Value->Shared->Prop) (E:Value->Shared->Prop),Q (.bool (g i j)) s->Zv (model X.prog X.w) X.A (f (.int i t) (.int j u)) Q E s):
  OpR X f (rI0 fun i j=>.bl (g i j)):=by
 intro aa s σ H x y v u Q I rx ry h;obtain⟨i,j,rfl,rfl,q⟩:=h;obtain⟨t,rfl⟩:=rx;obtain⟨t',rfl⟩:=ry;exact rule i j t t' s _ _ ⟨.bl (g i j),H,I,rfl,q⟩
noncomputable def yF(i j:Int):Prop:=0<j/\j<1073741824
noncomputable def Ce(i j:Int):Prop:=0<=j/\j<=1000000/\i.natAbs<2^64
noncomputable def oP(i j:Int):Prop:=(-(2^64)<i/\i<2^64)\/(-(2^64)<j/\j<2^64)
theorem oP.ok{i j:Int}(h:oP i j):IntMulOk i j:=by
 rcases h with ⟨h1,h2⟩|⟨h1,h2⟩
 ·exact .of_left (T9 h1 h2)
 ·exact .of_right (T9 h1 h2)
theorem aW:OpR X (binaryOp .Add) (rI0 fun i j=>.int (i+j)):=B3 fun _ _ _ _ _ _ _ q=>add_int q
theorem aS:OpR X (binaryOp .Sub) (rI0 fun i j=>.int (i-j)):=B3 fun _ _ _ _ _ _ _ q=>sub_int q
theorem fQ:OpR X (binaryOp .Mult) (rI oP fun i j=>.int (i*j)):=opI fun _ _ _ _ _ _ _ hc q=>mul_int q hc.ok
theorem dZ:OpR X (binaryOp .FloorDiv) (rI yF fun i j=>.int (i/j)):=opI fun i j _ _ _ _ _ hc q=>by
 have h1:(0:Int)<j:=hc.1;have h2:j<1073741824:=hc.2;exact TC (by lia) (by rw[Int.fdiv_eq_ediv_of_nonneg i (by lia)];exact q) (.inl (PyProof.noPylong_small (by lia)))
theorem bP:OpR X (binaryOp .Mod) (rI (fun _ j=>0<j) fun i j=>.int (i%j)):=opI fun i j _ _ _ _ _ hc q=>by
 have h1:(0:Int)<j:=hc;exact mod_int' (by lia) (by rw[Int.fmod_eq_emod_of_nonneg i (by lia)];exact q)
theorem jk:OpR X (binaryOp .Pow) (rI Ce fun i j=>.int (i^j.toNat)):=opI fun _ _ _ _ _ _ _ hc q=>pow_int_small hc.1 hc.2.1 hc.2.2 q
theorem unI{f:Value->Sem Value}{g:Int->Int}
  (rule:∀(i:Int) (t:Tok) (s:Shared) (Q:Value->Shared->Prop) (E:Value->Shared->Prop),Q (.int (g i) s.toks) {s with toks:=s.toks+1}->Zv (model X.prog X.w) X.A (f (.int i t)) Q E s):
  UnR X f (rU fun i=>.int (g i)):=by
 intro aa s σ H x v Q I rx h;obtain⟨i,rfl,q⟩:=h;obtain⟨t,rfl⟩:=rx;exact rule i t s _ _ ⟨.int (g i),H,I.tok _,⟨_,rfl⟩,q⟩
theorem lw:UnR X (unaryOp .USub) (rU fun i=>.int (-i)):=unI fun _ _ _ _ _ q=>neg_int q
end
noncomputable def A_:V->V->Bool
 | .non,.non=>true| .non,.int _=>true| .int _,.non=>true| .non,.bl _=>true| .bl _,.non=>true| .non,.str _=>true| .str _,.non=>true
 | .int _,.int _=>true| .bl _,.bl _=>true| .str _,.str _=>true| .byt _,.byt _=>true
 | .int _,.str _=>true| .str _,.int _=>true| .bl _,.str _=>true| .str _,.bl _=>true
 |_,_=>false
noncomputable def rEq:R2:=fun x y H Q=>A_ x y=true/\Q (.bl (decide (x=y))) H
noncomputable def rNe:R2:=fun x y H Q=>A_ x y=true/\Q (.bl (!decide (x=y))) H
theorem df{i j:Int}:decide (V.int i=V.int j)=(i==j):=by
 rw[ZP];simp
theorem wR{i j:Bool}:decide (V.bl i=V.bl j)=(i==j):=by
 rw[ZP];simp
theorem sI{i j:Str}:decide (V.str i=V.str j)=(i==j):=by
 rw[ZP];simp
theorem sY{i j:Array UInt8}:decide (V.byt i=V.byt j)=(i.toList==j.toList):=by
 rw[ZP];cases i;cases j;simp
section
variable{X:Cx}{a b c:Expr}{ta tb tc:TE}{pos:Pos}
theorem aY{aa:List (Addr×Obj)}{σ:St}{H:Hp}{s:Shared}{Q:VK}{k k':Bool}(I:Inv X aa σ H s)(q:Q (.bl k) H)(e:k=k'):EP X aa σ Q (.bool k') s:=by
 subst e;exact⟨.bl k,H,I,rfl,q⟩
theorem dM:OpR X (compareOp .Eq) rEq:=by
 intro aa s σ H x y v u Q I rx ry h;obtain⟨hs,q⟩:=h;cases x with
 |non=>
  cases rx;cases y with
  |non=>cases ry;exact UU (aY I q (by simp))
  |bl j=>cases ry;exact UV (aY I q (by simp))
  |int j=>obtain⟨t',rfl⟩:=ry;exact T_ (aY I q (by simp))
  |str j=>obtain⟨t',rfl⟩:=ry;exact Tz (aY I q (by simp))
  |_=>exact absurd (show false=true from hs) Zs
 |bl i=>
  cases rx;cases y with
  |non=>cases ry;exact UW (aY I q (by simp))
  |bl j=>cases ry;exact eq_bool (aY I q wR)
  |str j=>obtain⟨t',rfl⟩:=ry;exact UX (aY I q (by simp))
  |_=>exact absurd (show false=true from hs) Zs
 |int i=>
  obtain⟨t,rfl⟩:=rx;cases y with
  |non=>cases ry;exact Ty (aY I q (by simp))
  |int j=>obtain⟨t',rfl⟩:=ry;exact eq_int (aY I q df)
  |str j=>obtain⟨t',rfl⟩:=ry;exact Tx (aY I q (by simp))
  |_=>exact absurd (show false=true from hs) Zs
 |str i=>
  obtain⟨t,rfl⟩:=rx;cases y with
  |non=>cases ry;exact Tw (aY I q (by simp))
  |bl j=>cases ry;exact UY (aY I q (by simp))
  |int j=>obtain⟨t',rfl⟩:=ry;exact Tv (aY I q (by simp))
  |str j=>obtain⟨t',rfl⟩:=ry;exact eq_str (aY I q sI)
  |_=>exact absurd (show false=true from hs) Zs
 |byt i=>
  obtain⟨t,rfl⟩:=rx;cases y with
  |byt j=>obtain⟨t',rfl⟩:=ry;exact PySem.W.eq_bytes (aY I q sY)
  |_=>exact absurd (show false=true from hs) Zs
 |_=>cases y<;>exact absurd (show false=true from hs) Zs
theorem j6:OpR X (compareOp .NotEq) rNe:=by
 intro aa s σ H x y v u Q I rx ry h;obtain⟨hs,q⟩:=h;cases x with
 |non=>
  cases rx;cases y with
  |non=>cases ry;exact UZ (aY I q (by simp))
  |bl j=>cases ry;exact T0 (aY I q (by simp))
  |int j=>obtain⟨t',rfl⟩:=ry;exact Tu (aY I q (by simp))
  |str j=>obtain⟨t',rfl⟩:=ry;exact Tt (aY I q (by simp))
  |_=>exact absurd (show false=true from hs) Zs
 |bl i=>
  cases rx;cases y with
  |non=>cases ry;exact T4 (aY I q (by simp))
  |bl j=>cases ry;exact ne_bool (aY I q (congrArg not wR))
  |str j=>obtain⟨t',rfl⟩:=ry;exact T5 (aY I q (by simp))
  |_=>exact absurd (show false=true from hs) Zs
 |int i=>
  obtain⟨t,rfl⟩:=rx;cases y with
  |non=>cases ry;exact Ts (aY I q (by simp))
  |int j=>obtain⟨t',rfl⟩:=ry;exact ne_int (aY I q (congrArg not df))
  |str j=>obtain⟨t',rfl⟩:=ry;exact Tr (aY I q (by simp))
  |_=>exact absurd (show false=true from hs) Zs
 |str i=>
  obtain⟨t,rfl⟩:=rx;cases y with
  |non=>cases ry;exact Tq (aY I q (by simp))
  |bl j=>cases ry;exact T6 (aY I q (by simp))
  |int j=>obtain⟨t',rfl⟩:=ry;exact Tp (aY I q (by simp))
  |str j=>obtain⟨t',rfl⟩:=ry;exact ne_str (aY I q (congrArg not sI))
  |_=>exact absurd (show false=true from hs) Zs
 |byt i=>
  obtain⟨t,rfl⟩:=rx;cases y with
  |byt j=>obtain⟨t',rfl⟩:=ry;exact PySem.W.ne_bytes (aY I q (congrArg not sY))
  |_=>exact absurd (show false=true from hs) Zs
 |_=>cases y<;>exact absurd (show false=true from hs) Zs
theorem lM:OpR X (compareOp .Lt) (rI0 fun i j=>.bl (decide (i<j))):=tJ fun _ _ _ _ _ _ _ q=>lt_int q
theorem zm:OpR X (compareOp .LtE) (rI0 fun i j=>.bl (decide (i<=j))):=tJ fun _ _ _ _ _ _ _ q=>le_int q
theorem ik:OpR X (compareOp .Gt) (rI0 fun i j=>.bl (decide (j<i))):=tJ fun _ _ _ _ _ _ _ q=>gt_int q
theorem CS:OpR X (compareOp .GtE) (rI0 fun i j=>.bl (decide (j<=i))):=tJ fun _ _ _ _ _ _ _ q=>ge_int q
theorem Bx:OpR X (compareOp .Is) (fun x y H Q=>y=.non/\Q (.bl (decide (x=.non))) H):=by
 intro aa s σ H x y v u Q I rx ry h;obtain⟨rfl,q⟩:=h;cases ry;refine is_none_gen (aY I q ?_);cases x<;>first
  | (cases rx;rfl)
  | (obtain⟨t,rfl⟩:=rx;rfl)
theorem vE(b:Expr){op:Uj}(h:op≠.In:=by decide)(h2:op≠.NotIn:=by decide):behindInMarks op b=false:=by
 have e1:(op==CmpOp.In)=false:=by cases op<;>first|rfl|exact absurd rfl h
 have e2:(op==CmpOp.NotIn)=false:=by cases op<;>first|rfl|exact absurd rfl h2
 cases b<;>simp[behindInMarks,e1,e2]
theorem Ab{op:Uj}{r:R2}(ho:OpR X (compareOp op) r)(ha:PE X a ta)(hb:PE X b tb)(hm:behindInMarks op b=false):PE X (.Compare a [op] [b] pos) (tOp r ta tb):=by
 intro aa s σ H Q I h;exact Ua (xm ha hb I h fun v u s2 x y H2 I2 rx ry q=>ho aa s2 σ H2 x y v u Q I2 rx ry q) hm
theorem gP{X:Cx}{a b:Expr}{ta tb:TE}{pos:Pos}{op:Uj}{r:R2}(ho:OpR X (compareOp op) r)(ha:PE X a ta)(hb:PE X b tb)(hm:behindInMarks op b=false:=by exact vE _):PE X (.Compare a [op] [b] pos) (tOp r ta tb):=Ab ho ha hb hm
noncomputable def zh(t:TE):TT:=fun σ H Q=>t σ H fun x H'=>∃k,x=.bl k/\Q k H'
theorem sE{op:Uj}{r:R2}(ho:OpR X (compareOp op) r)(ha:PE X a ta)(hb:PE X b tb)(hm:behindInMarks op b=false):PT X (.Compare a [op] [b] pos) (zh (tOp r ta tb)):=by
 intro aa s σ H Q I h;refine Vi (thn (ha aa s σ H _ I h) fun v s1 ⟨x,H1,I1,r1,q1⟩=>thn (hb aa s1 σ H1 _ I1 q1) fun u s2 ⟨y,H2,I2,r2,q2⟩=>
  thn (ho aa s2 σ H2 x y v u _ I2 r1 r2 q2) fun c s3 ⟨z,H3,I3,r3,k,e,q3⟩=>?_) hm
 subst e;cases r3;exact Ye ⟨H3,I3,q3⟩
theorem aV{X:Cx}{a b:Expr}{ta tb:TE}{pos:Pos}{op:Uj}{r:R2}(ho:OpR X (compareOp op) r)(ha:PE X a ta)(hb:PE X b tb)(hm:behindInMarks op b=false:=by exact vE _):PT X (.Compare a [op] [b] pos) (zh (tOp r ta tb)):=sE ho ha hb hm
noncomputable def B8(r r':R2)(ta tb tc:TE):TE:=fun σ H Q=>ta σ H fun x H1=>tb σ H1 fun y H2=>r x y H2 fun z H3=>∃k,z=.bl k/\
 (if k=true then tc σ H3 fun w' H4=>r' y w' H4 Q else Q (.bl false) H3)
theorem yT{op E_:Uj}{r r':R2}(ho:OpR X (compareOp op) r)(C9:OpR X (compareOp E_) r')(ha:PE X a ta)(hb:PE X b tb)(hc:PE X c tc)
  (hm:lastMarks [op,E_] [b,c]=false:=by with_unfolding_all rfl):PE X (.Compare a [op,E_] [b,c] pos) (B8 r r' ta tb tc):=by
 intro aa s σ H Q I h;refine Compare_chain (thn (ha aa s σ H _ I h) fun v s1 ⟨x,H1,I1,r1,q1⟩=>chain_link (thn (hb aa s1 σ H1 _ I1 q1) fun u s2 ⟨y,H2,I2,r2,q2⟩=>
  thn (ho aa s2 σ H2 x y v u _ I2 r1 r2 q2) fun d s3 ⟨z,H3,I3,r3,k,e,q3⟩=>?_)) hm
 subst e;cases r3;refine Ye ?_;cases k with
 |false=>exact ite_ff ⟨.bl false,H3,I3,rfl,q3⟩
 |true=>exact ite_tt (chain_last (thn (hc aa s3 σ H3 _ I3 q3) fun w' s4 ⟨z',H4,I4,r4,q4⟩=>C9 aa s4 σ H4 y z' u w' Q I4 r2 r4 q4))
theorem qU:(sizeLine:Nat)<2^63:=by rw[WQ];decide
theorem vals1{x:V}{us:List Value}(r:aJ [x] us):∃u,us=[u]/\RelV x u:=by
 cases r with
 |cons r1 r2=>cases r2;exact⟨_,rfl,r1⟩
theorem vals2{x y:V}{us:List Value}(r:aJ [x,y] us):∃u w',us=[u,w']/\RelV x u/\RelV y w':=by
 cases r with
 |cons r1 r2=>
  cases r2 with
  |cons r3 r4=>cases r4;exact⟨_,_,rfl,r1,r3⟩
theorem gs:cZ X (.builtin "abs") (fun xs H Q=>∃i,xs=[.int i]/\Q (.int (if i<0 then -i else i)) H):=by
 intro aa s σ H xs us Q I r h;obtain⟨i,rfl,q⟩:=h;obtain⟨u,rfl,t,rfl⟩:=vals1 r;exact call_abs_int fun u tk=>⟨.int (if i<0 then -i else i),H,I.tok _,⟨_,rfl⟩,q⟩
theorem vK(hc:X.calm=true):cZ X (.builtin "max") (fun xs H Q=>∃i j,xs=[.int i,.int j]/\Q (.int (if j>i then j else i)) H):=by
 intro aa s σ H xs us Q I r h;obtain⟨i,j,rfl,q⟩:=h;obtain⟨u,w',rfl,⟨t,rfl⟩,⟨t',rfl⟩⟩:=vals2 r;refine max_two_ints (I.ok.hd hc) fun h' tk k=>⟨_,H,I.kept k,?_,q⟩;by_cases hj:j>i
 ·rw[if_pos hj,if_pos hj];exact⟨_,rfl⟩
 ·rw[if_neg hj,if_neg hj];exact⟨_,rfl⟩
theorem wM(hc:X.calm=true):cZ X (.builtin "min") (fun xs H Q=>∃i j,xs=[.int i,.int j]/\Q (.int (if j<i then j else i)) H):=by
 intro aa s σ H xs us Q I r h;obtain⟨i,j,rfl,q⟩:=h;obtain⟨u,w',rfl,⟨t,rfl⟩,⟨t',rfl⟩⟩:=vals2 r;refine min_two_ints (I.ok.hd hc) fun h' tk k=>⟨_,H,I.kept k,?_,q⟩;by_cases hj:j<i
 ·rw[if_pos hj,if_pos hj];exact⟨_,rfl⟩
 ·rw[if_neg hj,if_neg hj];exact⟨_,rfl⟩
end
end L2
namespace L2
open PySem PySem.Spec PyProof.Rows
structure yq(h:ZE)(x dx C:Addr)(mA:Str->Option Value):Prop where
 obj:h.get? x=some (Vr C dx)
 ns:h.Ns1 dx mA
 ne:dx≠x
theorem wY{h:ZE}{dx:Addr}{mA:Str->Option Value}(n:h.Ns1 dx mA):∃od,h.get? dx=some od/\∀name,Vd name od=some (mA name):=by
 obtain⟨o,es,ep,ho,hd,hk,_,hm⟩:=n;refine⟨o,ho,fun name=>?_⟩;have e:=hm name;unfold nsFind findBy at e;rw[<-Array.find?_toList]at e;unfold Vd;rw[hd];dsimp only
 split
 ·rename_i y q;rw[q]at e;exact congrArg some e
 ·rename_i q;rw[q]at e;have a:es.toList.any (·.refKey)=false:=by
   rw[U6];intro y hy;obtain⟨z,t,hkey⟩:=hk y (Array.mem_toList_iff.mp hy);simp[DictEntry.refKey,hkey]
  have a':¬es.toList.any (·.refKey)=true:=by rw[a];exact Zs
  rw[if_neg a'];exact congrArg some e
theorem yq.look{h:ZE}{x dx C:Addr}{mA:Str->Option Value}(I:yq h x dx C mA):∃od,PySem.W.InstAt h x (Vr C dx) C (some od)/\∀name,Vd name od=some (mA name):=
 let ⟨od,ho,hl⟩:=wY I.ns
 ⟨od,⟨I.obj,rfl,rfl,ho⟩,hl⟩
section
variable{prog:Zy}{w:Zm}{A:ZT}{E:Value->Shared->Prop}{s:Shared}{K:Z1}{x dx C f:Addr}{mA:Str->Option Value}{name:Str}{v:Value}
end
section
variable{P:Zy}{w:Zm}{H H':Hp}{h h':ZE}{a C dx:Addr}{fs E9:List (Str×V)}
theorem AH(hok:HOk P w H h)(e:H a=some (.ins C dx fs)):∃mA,yq h a dx C mA/\(∀f,xJ (fs.lookup f) (mA f))/\Tb mA (fs.map (·.1))/\fs.length<=1000/\H dx=some (.own a):=by
 obtain⟨d,z,ne,ob,mA,n,r,q⟩:=(show bh P w H h a (.ins C dx fs) from hok a _ e)
 exact⟨mA,⟨ob,n,ne⟩,r,q,z,d⟩
end
structure Cls(K:Z1)(C:Addr):Prop where
 pg:Ur K C Str.empty=true
 hd:PySem.W.hasDictIn K C=true
 po:PySem.W.plainOver K C=true
 sa:UC K (.ref C) "__setattr__" = some (some (.builtin "object.__setattr__"))
theorem Cls.get{K:Z1}{C:Addr}(c:Cls K C)(f:Str):Ur K C f=true:=c.pg
section
variable{X:Cx}{aa:List (Addr×Obj)}{σ:St}{H:Hp}{s:Shared}{a C dx:Addr}{fs:List (Str×V)}{f:Str}{v:V}{A:ZT}{E:Value->Shared->Prop}
end
section
variable{X:Cx}{o e value:Expr}{f:Str}{pos pos' DE:Pos}{ta tv:TE}
end
section
variable{X:Cx}{aa:List (Addr×Obj)}{σ:St}{H:Hp}{s:Shared}{A:ZT}{E:Value->Shared->Prop}{Q:Value->Shared->Prop}{c:Value}{b:Bool}
inductive f_(K:Z1)(H:Hp):V->Value->Prop where
 |non:f_ K H .non (.type "NoneType")
 |bl (x:Bool):f_ K H (.bl x) (.type "bool")
 |int (i:Int):f_ K H (.int i) (.type "int")
 |str (x:Str):f_ K H (.str x) (.type "str")
 |flt (x:UInt64):f_ K H (.flt x) (.type "float")
 |lst {a:Addr} {xs:List V} (e:H a=some (.lst xs)):f_ K H (.ref a) (.type "list")
 |frz {a:Addr} {o:Obj} {xs:List V} (e:H a=some (.frz o (.lst xs))):f_ K H (.ref a) (.type "list")
 |tup {a:Addr} {xs:List V} (e:H a=some (.tup xs)):f_ K H (.ref a) (.type "tuple")
 |dK {a:Addr} {CY:List (Key×V)} (e:H a=some (.dK CY)):f_ K H (.ref a) (.type "dict")
 |dT {a:Addr} {CY:List (List Key×V)} (e:H a=some (.dT CY)):f_ K H (.ref a) (.type "dict")
 |ins {a C dx:Addr} {fs:List (Str×V)} (e:H a=some (.ins C dx fs)) (cl:Cls K C) (ha:UC K (.ref C) "__class__" = some (some (.builtin "object.__class__")))
  (hn:PySem.W.specialIn K (.builtin "object.__class__") "__get__" = some (some (.builtin "getset_descriptor.__get__"))) (Eo:PySem.W.takesIn K (.builtin "object.__class__")=some true)
  (hm:PySem.W.mroIn K C (.type "object")=some true):f_ K H (.ref a) (.ref C)
theorem v9{x:V}{u t:Value}(I:Inv X aa σ H s)(rx:RelV x u)(ty:f_ X.K H x t)(e:Y7 X.K t c=some b)(h:∀tk,Q (.bool b) {s with toks:=tk}):
  Zv (model X.prog X.w) A (call (.builtin "isinstance") [u,c]) Q E s:=by
 cases ty with
 |non=>cases (show u=Value.none from rx);exact Yp PySem.W.kitx_none I.kIn WF e (fun z=>nomatch z) h
 |bl y=>cases (show u=Value.bool y from rx);exact Yp PySem.W.kitx_bool I.kIn WF e (fun z=>nomatch z) h
 |int i=>obtain⟨t,q⟩:=(show ∃t,u=Value.int i t from rx);cases q;exact Yp PySem.W.kitx_int I.kIn WF e (fun z=>nomatch z) h
 |str y=>obtain⟨t,q⟩:=(show ∃t,u=Value.str y t from rx);cases q;exact Yp PySem.W.kitx_str I.kIn WF e (fun z=>nomatch z) h
 |flt y=>obtain⟨t,q⟩:=(show ∃t,u=Value.float y t from rx);cases q;exact Yp PySem.W.kitx_float I.kIn WF e (fun z=>nomatch z) h
 | @lst a xs ea=>
  cases (show u=Value.ref a from rx)
  obtain⟨_,_,n,_,h1⟩:=(show bh X.prog X.w H s.heap a (.lst xs) from I.hok a _ ea)
  exact Yp U7 I.kIn ⟨_,h1,rfl⟩ e (fun z=>nomatch z) h
 | @frz a ob xs ea=>
  cases (show u=Value.ref a from rx)
  obtain⟨_,_,_,n,_,h1⟩:=(show bh X.prog X.w H s.heap a (.frz ob (.lst xs)) from I.hok a _ ea)
  exact Yp U7 I.kIn ⟨_,h1,rfl⟩ e (fun z=>nomatch z) h
 | @tup a xs ea=>
  cases (show u=Value.ref a from rx)
  obtain⟨_,_,_,p⟩:=(show bh X.prog X.w H s.heap a (.tup xs) from I.hok a _ ea)
  obtain⟨o,h1,h2,_⟩:=p;exact Yp PySem.W.kitx_tuple I.kIn ⟨o,h1,h2⟩ e (fun z=>nomatch z) h
 | @dK a CY ea=>
  cases (show u=Value.ref a from rx)
  obtain⟨_,_,vs,_,p⟩:=(show bh X.prog X.w H s.heap a (.dK CY) from I.hok a _ ea)
  obtain⟨o,es,ep,h1,h2,_⟩:=p;exact Yp U8 I.kIn ⟨o,h1,h2.1⟩ e (fun z=>nomatch z) h
 | @dT a CY ea=>
  cases (show u=Value.ref a from rx)
  obtain⟨_,_,xs,_,o,es,ep,h1,h2,_⟩:=(show bh X.prog X.w H s.heap a (.dT CY) from I.hok a _ ea)
  exact Yp U8 I.kIn ⟨o,h1,h2.1⟩ e (fun z=>nomatch z) h
 | @ins a C dx fs ea cl ha hn Eo hm=>
  cases (show u=Value.ref a from rx)
  obtain⟨mA,O,_⟩:=AH I.hok ea;obtain⟨od,J,_⟩:=O.look;exact Yp (PySem.W.kitx_own (cl.get _) cl.hd ha hn Eo hm) I.kIn J e (fun z=>nomatch z) h
end
end L2
namespace L2
open PySem PySem.Spec PyProof.Rows
structure dw(k:Nat)(A:ZT):Prop where
 hd:A.handled=none
 dp:A.depth+3*k+5<recursionLimit
 un:A.units+16*k+200<cLine
theorem dw.mono{j k:Nat}{A:ZT}(r:dw k A)(h:j<=k):dw j A:=⟨r.hd,by have:=r.dp;lia,by have:=r.un;lia⟩
theorem dw.deeper{k:Nat}{A:ZT}(r:dw (k+1) A)(env:Env):dw k (A.deeper env):=
 ⟨r.hd,by have:=r.dp;show A.depth+1+3*k+5<_;lia,by have:=r.un;show A.units+3+16*k+200<_;lia⟩
theorem dw.depth{k:Nat}{A:ZT}(r:dw k A):A.depth<recursionLimit:=by have:=r.dp;lia
noncomputable def gL:TA:=fun _ H Q=>Q [] H
noncomputable def bB(ta:TE)(tr:TA):TA:=fun σ H Q=>ta σ H fun x H1=>tr σ H1 fun xs H2=>Q (x::xs) H2
section
variable{X:Cx}{e:Expr}{es:List Expr}{te:TE}{t:TA}{pos:Pos}
theorem ie:PA X [] gL:=fun _ _ _ _ H Q I h=>WR ⟨[],H,I,.nil,h⟩
theorem dD(ha:PE X e te)(hr:PA X es t)(hs:Zn (e::es) X.env=(false,eval e X.env)::Zn es X.env:=by rfl):PA X (e::es) (bB te t):=by
 intro pos aa s σ H Q I h;rw[hs];show Zv _ _ (spliced ((false,eval e X.env)::backTo pos (Zn es X.env))) _ _ s;refine WG (thn (ha aa s σ H _ I h) fun u s1 zz=>?_);obtain⟨x,H1,I1,r1,q1⟩:=zz;exact thn (hr pos aa s1 σ H1 _ I1 q1) fun us s2 ⟨xs,H2,I2,r2,q2⟩=>⟨x::xs,H2,I2,.cons r1 r2,q2⟩
theorem pa1{X:Cx}{e:Expr}{te:TE}(ha:PE X e te)(hs:Zn [e] X.env=(false,eval e X.env)::Zn [] X.env:=by rfl):PA X [e] (bB te gL):=dD ha ie hs
theorem pa2{X:Cx}{e d:Expr}{te td:TE}(ha:PE X e te)(hb:PE X d td)(hs:Zn [e,d] X.env=(false,eval e X.env)::Zn [d] X.env:=by rfl)(ht:Zn [d] X.env=(false,eval d X.env)::Zn [] X.env:=by rfl):PA X [e,d] (bB te (bB td gL)):=dD ha (pa1 hb ht) hs
theorem pa3{X:Cx}{e d c:Expr}{te td tc:TE}(ha:PE X e te)(hb:PE X d td)(hc:PE X c tc)(hs:Zn [e,d,c] X.env=(false,eval e X.env)::Zn [d,c] X.env:=by rfl)(ht:Zn [d,c] X.env=(false,eval d X.env)::Zn [c] X.env:=by rfl)(hu:Zn [c] X.env=(false,eval c X.env)::Zn [] X.env:=by rfl):PA X [e,d,c] (bB te (bB td (bB tc gL))):=dD ha (pa2 hb hc ht hu) hs
theorem pa4{X:Cx}{e d c b:Expr}{te td tc tb:TE}(ha:PE X e te)(hb:PE X d td)(hc:PE X c tc)(hd:PE X b tb)(hs:Zn [e,d,c,b] X.env=(false,eval e X.env)::Zn [d,c,b] X.env:=by rfl)(ht:Zn [d,c,b] X.env=(false,eval d X.env)::Zn [c,b] X.env:=by rfl)(hu:Zn [c,b] X.env=(false,eval c X.env)::Zn [b] X.env:=by rfl)(hv:Zn [b] X.env=(false,eval b X.env)::Zn [] X.env:=by rfl):PA X [e,d,c,b] (bB te (bB td (bB tc (bB tb gL)))):=dD ha (pa3 hb hc hd ht hu hv) hs
noncomputable def tTup(t:TA):TE:=fun σ H Q=>t σ H fun xs H1=>xs.length<=sizeLine/\∀p,H1 p=none->Q (.ref p) (upd H1 p (.tup xs))
noncomputable def kQ(t:TA):TE:=fun σ H Q=>t σ H fun xs H1=>xs.length<=sizeLine/\∀p,H1 p=none->Q (.ref p) (upd H1 p (.lst xs))
theorem b7{x1}(h:PA X es t):PE X (.Tuple es x1 pos) (tTup t):=by
 intro aa s σ H Q I hq;refine Wb (thn (h pos aa s σ H _ I hq) fun us s1 ⟨xs,H1,I1,r,z,q⟩=>⟨by rw[<-r.length];exact z,?_⟩)
 have hf:H1 s1.heap.objs.size=none:=I1.hok.fresh (Nat.le_refl _);refine⟨.ref s1.heap.objs.size,upd H1 s1.heap.objs.size (.tup xs),I1.laid (t':=s1.toks) (fun b u e=>Z_ _ e) (Nat.le_refl _) ?_,rfl,q _ hf⟩;exact⟨z,us,r,⟨_,Zl _ rfl,rfl,_,rfl⟩⟩
theorem cN(h:PA X es t):PE X (.List es pos) (kQ t):=by
 intro aa s σ H Q I hq;refine wpAny_List_spliced (thn (h pos aa s σ H _ I hq) fun us s1 ⟨xs,H1,I1,r,z,q⟩=>⟨by rw[<-r.length];exact z,?_⟩)
 have hf:H1 s1.heap.objs.size=none:=I1.hok.fresh (Nat.le_refl _);refine⟨.ref s1.heap.objs.size,upd H1 s1.heap.objs.size (.lst xs),I1.laid (t':=s1.toks) (fun b u e=>Z_ _ e) (Nat.le_refl _) ?_,rfl,q _ hf⟩;exact⟨z,us,0,r,Zl _ rfl⟩
end
noncomputable abbrev Sp:=List V->Hp->VK->XK->Prop
noncomputable abbrev CXT:=List Env->Hp->Shared->XK->Value->Shared->Prop
structure uV(P:Zy)(w:Zm)(K:Z1)(mg:Str->Option Value)(base:ZE)(A:ZT)(outer:List Env)(s:Shared)(H:Hp):Prop where
 frames:A.frames=some outer
 mod:Mod K mg base
 bs:∀b o,base.get? b=some o->s.heap.get? b=some o/\H b=none
 bsz:base.objs.size<=s.heap.objs.size
 funs:s.heap.FunFrames base outer
 frf:∀b∈frs outer,H b=none
 hok:HOk P w H s.heap
 bare:Wm s.gens
noncomputable def CE(outer:List Env)(P:Zy)(w:Zm)(H:Hp)(s:Shared)(Q:VK)(u:Value)(s':Shared):Prop:=
 ∃v H',s'.os=s.os/\Wm s'.gens/\Un (frs outer) [] H H' s.heap s'.heap/\HOk P w H' s'.heap/\RelV v u/\Q v H'
noncomputable def CR(CX:CXT)(outer:List Env)(P:Zy)(w:Zm)(H:Hp)(s:Shared)(Q:VK)(E:XK)(r:VX)(s':Shared):Prop:=
 match r with
 | .ok (.ret u)=>CE outer P w H s Q u s'
 | .ok _=>False
 | .error e=>CX outer H s E e s'
structure FnOk(P:Zy)(w:Zm)(K:Z1)(mg:Str->Option Value)(base:ZE)(CX:CXT)(k:Nat)(f:Addr)(fd:ZD)(ps:List Str)(sp:Sp):Prop where
 len:∀vs H Q E,sp vs H Q E->vs.length=ps.length
 run:∀(A:ZT) (outer:List Env) (s:Shared) (H:Hp) (args:Args) (us:List Value) (vs:List V) (Q:VK) (E:XK),dw k A->uV P w K mg base A outer s H->U9 s fd args (ps.zip us)->aJ vs us->sp vs H Q E->
  XJ (model P w) A (.call (.ref f) args) (CR CX outer P w H s Q E) s
section
variable{X:Cx}{aa:List (Addr×Obj)}{σ:St}{H:Hp}{s s':Shared}
theorem Inv.env0(I:Inv X aa σ H s):uV X.prog X.w X.K X.mg X.base X.A X.stack s H:=
 ⟨I.ok.frames,I.ok.mod,I.bs,Nat.le_trans I.ok.bsz I.sz,I.stack,I.stkFree,I.hok,I.bare⟩
theorem Inv.after{Q:VK}{u:Value}(I:Inv X aa σ H s)(h:CE X.stack X.prog X.w H s Q u s'):EP X aa σ Q u s':=by
 obtain⟨v,H',os,bare,un,hok,r,q⟩:=h;obtain⟨hh,g,d,t,os'⟩:=s';obtain rfl:os'=s.os:=os;exact⟨v,H',I.call (h':=hh) (g':=g) (d':=d) (t':=t) (ch:=[]) un hok bare (fun b z=>absurd z (by simp)),r,q⟩
end
noncomputable def mx(sp:Sp)(DF:List V)(E:XK)(t:TA):TE:=fun σ H Q=>t σ H fun vs H1=>sp (vs++DF) H1 Q E
noncomputable def Binds(K:Z1)(fd:ZD)(ps:List Str)(ds:List Value):Prop:=
 ∀(s:Shared) (us:List Value),K.In s.heap->(us++ds).length=ps.length->U9 s fd ⟨us,[]⟩ (ps.zip (us++ds))
theorem Binds.all{K:Z1}{fd:ZD}{ps:List Str}(h:∀us:List Value,us.length=ps.length->bindArgs fd ⟨us,[]⟩=pure (ps.zip us)):Binds K fd ps []:=fun s us _ hl=>by
 rw[ZJ]at hl ⊢;exact .of_eq (h us hl)
noncomputable def p_(CX:CXT)(X:Cx)(E:XK):Prop:=∀(aa:List (Addr×Obj)) (σ:St) (H:Hp) (s:Shared) (e:Value) (s':Shared),Inv X aa σ H s->CX X.stack H s E e s'->X.xe e s'
section
variable{X:Cx}{CX:CXT}{k:Nat}{f C:Addr}{fd:ZD}{ps:List Str}{sp:Sp}{DF:List V}{ds:List Value}{E:XK}{x m:Str}{p pos apos:Pos}{e o:Expr}{es:List Expr}{ta:TE}{t:TA}
theorem Ci{aa:List (Addr×Obj)}{σ:St}{H:Hp}{s:Shared}{Q:VK}{us:List Value}{vs:List V}(F:FnOk X.prog X.w X.K X.mg X.base CX k f fd ps sp)(hr:dw k X.A)(hb:Binds X.K fd ps ds)(hd:aJ DF ds)(hx:p_ CX X E)
  (I:Inv X aa σ H s)(r:aJ vs us)(h:sp (vs++DF) H Q E):Zv (model X.prog X.w) X.A (call (.ref f) us) (EP X aa σ Q) X.xe s:=by
 have r2:aJ (vs++DF) (us++ds):=r.append hd;have hl:(us++ds).length=ps.length:=by rw[<-r2.length];exact F.len _ _ _ _ h
 refine UD (XM (F.run X.A X.stack s H ⟨us,[]⟩ (us++ds) (vs++DF) Q E hr I.env0 (hb s us I.kIn hl) r2 h) fun r s' hq=>?_);cases r with
 |error e=>exact hx aa σ H s e s' I hq
 |ok fl=>
  cases fl with
  |ret u=>exact I.after hq
  |next=>exact False.elim hq
  |brk=>exact False.elim hq
  |cont=>exact False.elim hq
theorem At(F:FnOk X.prog X.w X.K X.mg X.base CX k f fd ps sp)(hr:dw k X.A)(hg:Gl X x)(hm:X.mg x=some (.ref f))(hk:YG X.K (.ref f)=true)(hb:Binds X.K fd ps ds)(hd:aJ DF ds)(hx:p_ CX X E)
  (ha:PA X (e::es) t)(D9:(x==("__debug__" : Str))=false:=by decide)(he:Zn (e::es) X.env=(false,eval e X.env)::Zn es X.env:=by rfl)(D8:(backTo pos (Zn es X.env)).any (·.1)=false:=by rfl):
  PE X (.Call (.Name x p) (e::es) [] pos) (mx sp DF E t):=by
 intro aa s σ H Q I h;refine YC (iO I hg hm ?_ D9);refine VY (h₀:=X.base) I.ok.mod.kin hk (thn (ha pos aa s σ H _ I h) fun us s1 ⟨vs,H1,I1,r,q⟩=>⟨I1.kIn,?_⟩) he D8;exact Ci F hr hb hd hx I1 r q
end
section
variable{X:Cx}{CX:CXT}{k:Nat}{f C:Addr}{fd:ZD}{ps ks:List Str}{sp:Sp}{E:XK}{x m:Str}{p pos apos kpos:Pos}{e o:Expr}{es:List Expr}{kws:List TD}{te ta:TE}{t tk:TA}{nm:Option Str}
variable{g:List Value->List Value->List Value}{gV:List V->List V->List V}
end
structure aD(N P:List Str)(sc:XT):Prop where
 kind:sc.kind=.function
 co:sc.isCoroutine=false
 gen:sc.isGenerator=false
 nd:N.Nodup
 pre:N.take P.length=P
 par:∀x∈P,sc.names.lookup x=some .local\/sc.names.lookup x=some .cell
 nofree:∀y∈sc.names,y.2≠.free
theorem aD.mk'{N P:List Str}{sc:XT}(a:sc.kind=.function:=by rfl)(b:sc.isCoroutine=false:=by rfl)(c:sc.isGenerator=false:=by rfl)(d:N.Nodup:=by decide +kernel)(e:N.take P.length=P:=by rfl)(f:∀x∈P,sc.names.lookup x=some .local\/sc.names.lookup x=some .cell:=by decide +kernel)(g:∀y∈sc.names,y.2≠.free:=by decide +kernel):aD N P sc:=⟨a,b,c,d,e,f,g⟩
theorem nu{kindOf:Str->Option XU}{x:Str}:∀{binds:List (Str×Value)} {m:Str->Option Value},(∀v,(x,v)∉binds)->bindL kindOf binds m x=m x
 | [],_,_=>rfl
 | (n,v)::r,m,h=>by
  unfold bindL;rw[nu fun w hw=>h w (Z8 _ hw)]
  split
  ·have:x≠n:=by rintro rfl;exact h v Zq
   simp[this]
  ·rfl
theorem nt{kindOf:Str->Option XU}{x:Str}:∀{binds:List (Str×Value)} {m:Str->Option Value},(∀v,(x,v)∉binds)->bindC kindOf binds m x=m x
 | [],_,_=>rfl
 | (n,v)::r,m,h=>by
  unfold bindC;rw[nt fun w hw=>h w (Z8 _ hw)]
  split
  ·rfl
  ·have:x≠n:=by rintro rfl;exact h v Zq
   simp[this]
theorem n9{kindOf:Str->Option XU}{x:Str}{v:Value}:∀{P:List Str} {vs:List Value} {i:Nat} {m:Str->Option Value},P.Nodup->P[i]?=some x->vs[i]?=some v->kindOf x=some .local->
  bindL kindOf (P.zip vs) m x=some v
 | [],_,_,_,_,h,_,_=>by simp at h
 |_::_,[],_,_,_,_,h,_=>by simp at h
 |p::P,w::vs,0,m,nd,h1,h2,hk=>by
  simp at h1 h2;subst h1;subst h2;show bindL kindOf ((p,w)::P.zip vs) m p=_;unfold bindL;rw[nu fun v hv=>(Y4.mp nd).1 (Vq hv).1,if_pos hk];simp
 |p::P,w::vs,i+1,m,nd,h1,h2,hk=>by
  show bindL kindOf ((p,w)::P.zip vs) m x=_;unfold bindL;exact n9 (i:=i) (Y4.mp nd).2 (by simpa using h1) (by simpa using h2) hk
theorem nR{kindOf:Str->Option XU}{x:Str}{v:Value}:∀{P:List Str} {vs:List Value} {i:Nat} {m:Str->Option Value},P.Nodup->P[i]?=some x->vs[i]?=some v->kindOf x≠some .local->
  bindC kindOf (P.zip vs) m x=some v
 | [],_,_,_,_,h,_,_=>by simp at h
 |_::_,[],_,_,_,_,h,_=>by simp at h
 |p::P,w::vs,0,m,nd,h1,h2,hk=>by
  simp at h1 h2;subst h1;subst h2;show bindC kindOf ((p,w)::P.zip vs) m p=_;unfold bindC;rw[nt fun v hv=>(Y4.mp nd).1 (Vq hv).1,if_neg hk];simp
 |p::P,w::vs,i+1,m,nd,h1,h2,hk=>by
  show bindC kindOf ((p,w)::P.zip vs) m x=_;unfold bindC;exact nR (i:=i) (Y4.mp nd).2 (by simpa using h1) (by simpa using h2) hk
noncomputable def start(N:List Str)(vs:List V):St:=vs.map some++WH (N.length-vs.length) none
noncomputable def hZ(CX:CXT)(P:Zy)(w:Zm)(K:Z1)(mg:Str->Option Value)(base:ZE)(N:List Str)(qual:Str)(scope:XT)(f:Addr)(cd:Value)(A:ZT)(outer:List Env)(s:Shared)(H:Hp)(E:XK):Cx where
 prog:=P
 w:=w
 K:=K
 mg:=mg
 base:=base
 A:=A.deeper (envOfC qual scope s.heap.objs.size f cd)
 N:=N
 s₀:=s
 H₀:=H
 env:=envOfC qual scope s.heap.objs.size f cd
 outer:=outer
 stack:=envOfC qual scope s.heap.objs.size f cd::outer
 ex:=[]
 calm:=true
 fn:=fun _=>true
 pn:=[]
 xe:=fun e s'=>Zv (model P w) (A.deeper (envOfC qual scope s.heap.objs.size f cd)) (leaving (envOfC qual scope s.heap.objs.size f cd) e) (fun _ Dh=>CX outer H s E e Dh) (fun e' Dh=>CX outer H s E e' Dh) s'
theorem qH{sc:XT}{n:Nat}{x:Str}(h:sc.names.lookup x=some .cell):∃c,(cellsFrom n sc.names []).lookup x=some c:=by
 have q:=V_ sc.names n [] (.inl h);exact XV.mp q
theorem v7{CX:CXT}{P:Zy}{w:Zm}{K:Z1}{mg:Str->Option Value}{base:ZE}{N ps:List Str}{qual:Str}{scope:XT}{f:Addr}{cd:Value}{A:ZT}{outer:List Env}{s s1:Shared}{H:Hp}{E:XK}{us:List Value}{vs:List V}
  (S:aD N ps scope)(hd:A.handled=none)(e0:uV P w K mg base A outer s H)(hl:vs.length=ps.length)(r:aJ vs us)
  (x:InCallC s s.heap.objs.size (bindL (envOfC qual scope s.heap.objs.size f cd).kindOf (ps.zip us) fun _=>none) (cellsFrom (s.heap.objs.size+1) scope.names []) (bindC (envOfC qual scope s.heap.objs.size f cd).kindOf (ps.zip us) fun _=>none) s1):
  Inv (hZ CX P w K mg base N qual scope f cd A outer s H E) [] (start N vs) H s1:=by
 have D8:ps.length<=N.length:=by have:=congrArg Xx S.pre;rw[Za]at this;lia
 obtain⟨h1,tk,rfl,hk⟩:=x.done;have noA:∀b:Addr,b∉(hZ CX P w K mg base N qual scope f cd A outer s H E).ex:=fun b z=>absurd (show b∈([]:List Addr) from z) (by simp)
 refine⟨⟨e0.mod,S.kind,rfl,rfl,Nat.le_refl _,fun y z c h1 h2=>?_,fun y hy=>?_,fun y c _ h=>?_,fun _=>hd,Around.frames_deeper e0.frames,.inr ⟨rfl,rfl⟩,fun b z=>absurd z (noA b),e0.bs,e0.bsz,fun b _ _=>noA b,fun b z=>absurd z (noA b),e0.funs,e0.frf⟩,
  rfl,e0.bare,Un.kept hk,⟨_,x.toInCall.ns,fun i y v h1 h2 h3=>?_⟩,fun y c h=>⟨_,x.cell y c h⟩,e0.hok.fresh (Nat.le_refl _),fun y c h=>?_,fun p hp=>absurd (show p∈([]:List (Addr×Obj)) from hp) (by simp),e0.hok.kept hk,?_⟩
 ·exact name_of_addr x.apart (Yo h1) (Yo h2)
 ·have hy:scope.names.lookup y=some .cell\/scope.names.lookup y=some .free:=hy;rcases hy with hy|hy
  ·exact qH hy
  ·exact absurd rfl (S.nofree _ (Yo hy))
 ·exact Nat.le_of_lt (x.above y c (Yo h))
 ·have hi:i<vs.length:=by
   unfold start at h2;by_cases hi:i<vs.length
   ·exact hi
   ·rw[Yt (by simpa using hi)]at h2
    rw[Xq]at h2
    split at h2<;>cases h2
  have ha:vs[i]?=some v:=by
   unfold start at h2;rw[ZW (by simpa using hi),Zj]at h2
   cases e:vs[i]? with
   |none=>rw[e]at h2;cases h2
   |some a=>rw[e]at h2;cases h2;rfl
  obtain⟨u,hu,rv⟩:=r.get ha;have hp:ps[i]?=some y:=by
   rw[<-S.pre,YA (by lia)];exact h1
  have ndP:ps.Nodup:=by rw[<-S.pre];exact S.nd.sublist (List.take_sublist _ _)
  refine⟨u,rv,?_⟩;rcases S.par y (Y8 hp) with k|k
  ·exact .inl ⟨k,n9 ndP hp hu k⟩
  ·obtain⟨c,e⟩:=qH (n:=s.heap.objs.size+1) k;refine .inr ⟨.inl k,c,e,?_⟩;have q:=x.cell y c e;rw[nR ndP hp hu (by show scope.names.lookup y≠_;rw[k];decide)]at q
   exact q
 ·exact e0.hok.fresh (Nat.le_of_lt (x.above y c (Yo h)))
 ·unfold start;show _=N.length;rw[Z5,Z7,Wz];lia
theorem y9{CX:CXT}{P:Zy}{w:Zm}{K:Z1}{mg:Str->Option Value}{base:ZE}{k:Nat}{f:Addr}{name qual:Str}{params:Arguments}{body:List Stmt}{scope:XT}{dV kV doc pm C6 ct oc:Value}{an od:Option Addr}
  {Dz:Array (Option Value)}{N ps:List Str}{sp:Sp}(lk:K.lookup f=some ⟨oc,od,.func (X1 name qual params body scope dV kV doc pm an C6 ct),Dz⟩)(Dj:WI K C6 qual=true)(S:aD N ps scope)
  (len:∀vs H Q E,sp vs H Q E->vs.length=ps.length)
  (Dc:∀(A:ZT) (outer:List Env) (s:Shared) (H:Hp) (vs:List V) (Q:VK) (E:XK),dw k (A.deeper (envOfC qual scope s.heap.objs.size f C6))->sp vs H Q E->
   ∃t,PSs (hZ CX P w K mg base N qual scope f C6 A outer s H E) body t/\t {nx:=fun _ H'=>Q .non H',rt:=Q} (start N vs) H):
  FnOk P w K mg base CX (k+1) f (X1 name qual params body scope dV kV doc pm an C6 ct) ps sp:=by
 refine⟨len,fun A outer s H args us vs Q E hr e0 hb r Dq=>?_⟩;have hl:=len _ _ _ _ Dq;have KX:K.In s.heap:=e0.mod.kin.keeps fun b o e=>(e0.bs b o e).1;have lim:s.heap.NoLimit:=e0.mod.nolimit.keeps fun b o e=>(e0.bs b o e).1;have hkind:∀y∈ps.zip us,scope.names.lookup y.1=some .local\/(scope.names.lookup y.1=some .cell/\((cellsFrom (s.heap.objs.size+1) scope.names []).lookup y.1).isSome=true):=fun ⟨n,v⟩ hy=>by
  rcases S.par n (Vq hy).1 with q|q
  ·exact .inl q
  ·exact .inr ⟨q,V_ _ _ _ (.inl q)⟩
 refine codeAny_call_function hr.depth (KX _ _ lk) rfl S.co S.gen rfl (PySem.W.codeRec_of KX Dj) (hb _ _ _ _ ?_);refine wpAny_newFunctionEnv_cells S.kind hkind fun env he s1 x=>?_;subst he;refine⟨lim.keeps x.toInCall.keep,codeAny_func ?_⟩;obtain⟨t,ht,hq⟩:=Dc A outer s H vs Q E (hr.deeper _) Dq;have I:Inv (hZ CX P w K mg base N qual scope f C6 A outer s H E) [] (start N vs) H s1:=v7 S hr.hd e0 hl r x;refine Y3 (ht [] s1 (start N vs) H _ I hq) (fun fl s' hs=>?_) fun e s' hs=>hs;have fin:∀{σ':St} {H':Hp} {v:V} {u:Value},Inv (hZ CX P w K mg base N qual scope f C6 A outer s H E) [] σ' H' s'->RelV v u->Q v H'->CE outer P w H s Q u s':=
  fun {σ' H' v u} J rv q=>⟨v,H',J.os,J.bare,J.base,J.hok,rv,q⟩
 cases fl with
 |ret u=>
  obtain⟨v,σ',H',J,rv,q⟩:=hs;exact fin J rv q
 |next=>
  obtain⟨σ',H',J,q⟩:=hs;exact fin (v:=V.non) (u:=Value.none) J rfl q
 |brk=>
  obtain⟨_,_,_,q⟩:=hs;exact False.elim q
 |cont=>
  obtain⟨_,_,_,q⟩:=hs;exact False.elim q
end L2
namespace L2
open PySem PySem.Spec PyProof.Rows
section
variable{X:Cx}{x:Str}{p pos:Pos}{e:Expr}{es:List Expr}{t:TA}{id T:String}{r:List V->Hp->VK->Prop}
noncomputable def tCB(r:List V->Hp->VK->Prop)(t:TA):TE:=fun σ H Q=>t σ H fun vs H1=>r vs H1 Q
theorem aE(hc:cZ X (.builtin id) r)(hg:Gl X x)(hm:X.mg x=none)(hv:bootBuiltins x=some (.builtin id))(ha:PA X (e::es) t)(hn:x ≠ "__name__" :=by decide)(D9:(x==("__debug__" : Str))=false:=by decide)
  (he:Zn (e::es) X.env=(false,eval e X.env)::Zn es X.env:=by rfl)(D8:(backTo pos (Zn es X.env)).any (·.1)=false:=by rfl):PE X (.Call (.Name x p) (e::es) [] pos) (tCB r t):=by
 intro aa s σ H Q I h;refine YC (fm I hg hm hv ?_ hn D9);exact Uq (thn (ha pos aa s σ H _ I h) fun us s1 ⟨vs,H1,I1,r1,q1⟩=>hc aa s1 σ H1 vs us Q I1 r1 q1) he D8
theorem gH(hc:cZ X (.type T) r)(hg:Gl X x)(hm:X.mg x=none)(hv:bootBuiltins x=some (.type T))(ha:PA X (e::es) t)(hn:x ≠ "__name__" :=by decide)(D9:(x==("__debug__" : Str))=false:=by decide)
  (he:Zn (e::es) X.env=(false,eval e X.env)::Zn es X.env:=by rfl)(D8:(backTo pos (Zn es X.env)).any (·.1)=false:=by rfl):PE X (.Call (.Name x p) (e::es) [] pos) (tCB r t):=by
 intro aa s σ H Q I h;refine YC (fm I hg hm hv ?_ hn D9);exact ZZ (thn (ha pos aa s σ H _ I h) fun us s1 ⟨vs,H1,I1,r1,q1⟩=>hc aa s1 σ H1 vs us Q I1 r1 q1) he D8
end
end L2
namespace HT
open PySem PyProof.Rows
section
open PySem.SeqAt
open PySem.AutoSeq1 (wpAny_loadPart')
open PySem.MeetsSeq PySem.MeetsSeq2 PySem.MeetsSeq3
end
section
variable{prog:Zy}{w:Zm}{A:ZT}{E:Value->Shared->Prop}{s:Shared}
noncomputable def sIx(n d:Nat):Option Int->Nat
 |none=>d
 |some v=>if v<0 then (v+(n:Int)).toNat else min v.toNat n
theorem sIx_none(n d:Nat):sIx n d none=d:=rfl
theorem sIx_nat(n d k:Nat):sIx n d (some (k:Int))=min k n:=by
 show (if (k:Int)<0 then ((k:Int)+(n:Int)).toNat else min (k:Int).toNat n)=min k n
 rw[if_neg (by lia),Int.toNat_natCast]
end
end HT
namespace L2
open PySem PySem.Spec PyProof.Rows
noncomputable abbrev TO:=St->Hp->(Option Int->Hp->Prop)->Prop
noncomputable def PO(X:Cx)(e:Option Expr)(t:TO):Prop:=
 ∀(aa:List (Addr×Obj)) (s:Shared) (σ:St) (H:Hp) (Q:Option Int->Hp->Prop),Inv X aa σ H s->t σ H Q->
  Zv (model X.prog X.w) X.A (evalPart e X.env) (fun u s'=>∃o H',Inv X aa σ H' s'/\IsPart u o/\Q o H') X.xe s
noncomputable def As:TO:=fun _ H Q=>Q none H
noncomputable def Cs(t:TE):TO:=fun σ H Q=>t σ H fun x H1=>∃i,x=.int i/\Q (some i) H1
section
variable{X:Cx}{e:Expr}{te:TE}{lo hi:Option Expr}{tl th:TO}{pos p2:Pos}
theorem f9:PO X none As:=by
 intro aa s σ H Q I h;rw[To];exact Z6 ⟨none,H,I,.none,h⟩
theorem eV(h:PE X e te):PO X (some e) (Cs te):=by
 intro aa s σ H Q I hw;rw[evalPart_some];refine thn (h aa s σ H _ I hw) fun u s1 zz=>?_;obtain⟨x,H1,I1,r1,q1⟩:=zz;obtain⟨i,rfl,q⟩:=q1;obtain⟨t,rfl⟩:=r1;exact⟨some i,H1,I1,.int i t,q⟩
noncomputable def SlR(X:Cx)(r:V->Option Int->Option Int->Hp->VK->Prop):Prop:=
 ∀(aa:List (Addr×Obj)) (s:Shared) (σ:St) (H:Hp) (x:V) (v vl vu:Value) (lo hi:Option Int) (sl:Addr) (Q:VK),Inv X aa σ H s->RelV x v->s.heap.IsSliceOf sl vl vu .none->IsPart vl lo->IsPart vu hi->r x lo hi H Q->
  ∃T id,typeLookup (.type T) "__getitem__" = pure (some (.builtin id))/\s.TypeIs v T/\Zv (model X.prog X.w) X.A (getItem v (.ref sl)) (EP X aa σ Q) X.xe s
noncomputable def tSl(r:V->Option Int->Option Int->Hp->VK->Prop)(te:TE)(tl th:TO):TE:=fun σ H Q=>te σ H fun x H1=>tl σ H1 fun l H2=>th σ H2 fun u H3=>r x l u H3 Q
theorem eO{r:V->Option Int->Option Int->Hp->VK->Prop}(hr:SlR X r)(he:PE X e te)(hl:PO X lo tl)(hu:PO X hi th):PE X (.Subscript e (.Slice lo hi none p2) pos) (tSl r te tl th):=by
 intro aa s σ H Q I h;refine Subscript_ (thn (he aa s σ H _ I h) fun v s1 zz=>?_);obtain⟨x,H1,I1,r1,q1⟩:=zz;refine wpAny_Slice (thn (hl aa s1 σ H1 _ I1 q1) fun vl s2 ⟨l,H2,I2,pl,q2⟩=>thn (hu aa s2 σ H2 _ I2 q2) fun vu s3 zz=>?_);obtain⟨u,H3,I3,pu,q3⟩:=zz;rw[To];refine Z6 ?_;have I4:Inv X aa σ H3 {s3 with heap:=s3.heap.push {cls:=.type "slice",data:=.fields #[vl,vu,.none]}}:=I3.kept (t':=s3.toks) fun b ob q=>Z_ _ q
 obtain⟨T,id,hT,ht,hg⟩:=hr aa {s3 with heap:=s3.heap.push {cls:=.type "slice",data:=.fields #[vl,vu,.none]}} σ H3 x v vl vu l u s3.heap.objs.size Q I4 r1 (Heap.IsSliceOf.new ..) pl pu q3
 show Zv (model X.prog X.w) X.A (subscriptTail e (.Slice lo hi none p2) v (.ref s3.heap.objs.size)) (EP X aa σ Q) X.xe {s3 with heap:=s3.heap.push {cls:=.type "slice",data:=.fields #[vl,vu,.none]}}
 exact tail_any (ops:=[.ref s3.heap.objs.size,v]) ht hT hg (by with_unfolding_all rfl)
noncomputable def bq(xs:List V)(lo hi:Option Int):List V:=(xs.drop (HT.sIx xs.length 0 lo)).take (HT.sIx xs.length xs.length hi-HT.sIx xs.length 0 lo)
theorem qW(xs:List V)(lo hi:Option Int):(bq xs lo hi).length<=xs.length:=by
 unfold bq;rw[Za,Zp];lia
end
end L2
namespace L2
open PySem PySem.Spec PyProof.Rows
noncomputable def ixN(n:Nat)(i:Int):Option Nat:=if 0<=i then (if i<n then some i.toNat else none) else if -(n:Int)<=i then some (i+n).toNat else none
noncomputable def atI{α:Type}(xs:List α)(i:Int):Option α:=(ixN xs.length i).bind fun j=>xs[j]?
theorem Ad{n:Nat}{i:Int}{j:Nat}(h:ixN n i=some j):seqIndex? i n=some j/\j<n/\-(n:Int)<=i/\i<n:=by
 unfold ixN at h;by_cases h0:0<=i
 ·rw[if_pos h0]at h;by_cases h1:i<n
  ·rw[if_pos h1]at h;have e:i.toNat=j:=Ze h;exact⟨by rw[TZ h0 h1,e],by lia,by lia,h1⟩
  ·rw[if_neg h1]at h;cases h
 ·rw[if_neg h0]at h;by_cases h1:-(n:Int)<=i
  ·rw[if_pos h1]at h;have e:(i+n).toNat=j:=Ze h;exact⟨by rw[seqIndex_neg (by lia) h1,e],by lia,h1,by lia⟩
  ·rw[if_neg h1]at h;cases h
theorem sJ{α:Type}{xs:List α}{i:Int}{v:α}(h:atI xs i=some v):∃j,seqIndex? i xs.length=some j/\xs[j]?=some v/\j<xs.length/\-(xs.length:Int)<=i/\i<xs.length:=by
 unfold atI at h;cases e:ixN xs.length i with
 |none=>rw[e]at h;cases h
 |some j=>
  rw[e]at h;obtain⟨h1,h2,h3,h4⟩:=Ad e;exact⟨j,h1,h,h2,h3,h4⟩
theorem jZ{α:Type}{xs:List α}{j:Nat}{v:α}(h:xs[j]?=some v):atI xs (j:Int)=some v:=by
 have hj:j<xs.length:=(Zh.mp h).1;have e:ixN xs.length (j:Int)=some j:=by
  unfold ixN;rw[if_pos (by lia),if_pos (by lia)];simp
 unfold atI;rw[e];exact h
noncomputable def kd(b:Expr):Prop:=∀o i,subscripted b false o i=operate [o,i] (getItem o i)
noncomputable def IxR(X:Cx)(r:R2):Prop:=
 ∀(value slice:Expr) (aa:List (Addr×Obj)) (s:Shared) (σ:St) (H:Hp) (x y:V) (v u:Value) (Q:VK),Inv X aa σ H s->RelV x v->RelV y u->r x y H Q->
  subscripted slice false v u=operate [v,u] (getItem v u)->Zv (model X.prog X.w) X.A (subscriptTail value slice v u) (EP X aa σ Q) X.xe s
noncomputable def MtR(X:Cx)(id:String)(r:V->List V->Hp->VK->Prop):Prop:=
 ∀(aa:List (Addr×Obj)) (s:Shared) (σ:St) (H:Hp) (x:V) (xs:List V) (v:Value) (us:List Value) (Q:VK),Inv X aa σ H s->RelV x v->aJ xs us->r x xs H Q->
  Zv (model X.prog X.w) X.A (call (.builtin id) (v::us)) (EP X aa σ Q) X.xe s
section
variable{X:Cx}{a b:Expr}{ta tb:TE}{pos:Pos}
theorem y8{r:R2}(hr:IxR X r)(ha:PE X a ta)(hb:PE X b tb)(hs:kd b):PE X (.Subscript a b pos) (tOp r ta tb):=by
 intro aa s σ H Q I h;exact Subscript_ (xm ha hb I h fun v u s2 x y H2 I2 rx ry q=>hr a b aa s2 σ H2 x y v u Q I2 rx ry q (hs _ _))
theorem am{X:Cx}{a b:Expr}{ta tb:TE}{pos:Pos}{r:R2}(hr:IxR X r)(ha:PE X a ta)(hb:PE X b tb)(hs:kd b:=by exact fun _ _=>rfl):PE X (.Subscript a b pos) (tOp r ta tb):=y8 hr ha hb hs
noncomputable def pJ(K:Z1):R2:=fun x y H Q=>∃p xs i v,x=.ref p/\y=.int i/\SqL K H p xs/\atI xs i=some v/\Q v H
noncomputable def jR(K:Z1):R2:=fun x y H Q=>∃p xs i v,x=.ref p/\y=.int i/\SqT K H p xs/\atI xs i=some v/\Q v H
theorem aF:IxR X (pJ X.K):=by
 intro value slice aa s σ H x y v u Q I rx ry h hs;obtain⟨p,xs,i,z,rfl,rfl,hq,he,q⟩:=h;cases rx;obtain⟨t,rfl⟩:=ry;obtain⟨f',r,pl,hz⟩:=I.list hq;obtain⟨j,h1,h2,h3,h4,h5⟩:=sJ he;obtain⟨w,ew,rw'⟩:=r.get h2;have hl:=r.length;have hn:=qU;have fin:EP X aa σ Q w s:=⟨z,H,I,rw',q⟩;by_cases h0:0<=i
 ·have hj:i.toNat=j:=by
   rw[TZ h0 h5]at h1;exact Ze h1
  exact item_listR pl.isList h0 (by lia) (by rw[hj];simpa using ew) fin hs
 ·have hj:(i+(f'.toArray.size:Int)).toNat=j:=by
   rw[seqIndex_neg (by lia) h4]at h1
   rw[Z9,<-hl];exact Ze h1
  exact Vz (x:=w) pl.isList.typeIs slot_list_getitem.lookup
   (wpAny_getItem_list_neg (Q:=fun r s'=>r=w/\EP X aa σ Q r s') pl.isList (by lia) (by rw[Z9]<;>lia) (by lia) (by rw[hj];simpa using ew) ⟨rfl,fin⟩) hs
theorem aw:IxR X (jR X.K):=by
 intro value slice aa s σ H x y v u Q I rx ry h hs;obtain⟨p,xs,i,z,rfl,rfl,hq,he,q⟩:=h;cases rx;obtain⟨t,rfl⟩:=ry;obtain⟨f',r,pl,hz⟩:=I.tuple hq;obtain⟨j,h1,h2,h3,h4,h5⟩:=sJ he;obtain⟨w,ew,rw'⟩:=r.get h2;have hl:=r.length;have hn:=qU;have fin:EP X aa σ Q w s:=⟨z,H,I,rw',q⟩;exact Vz (x:=w) pl.typeIs slot_tuple_getitem.lookup
  (getItem_tuple (j:=j) (Q:=fun r s'=>r=w/\EP X aa σ Q r s') pl (by lia) (by lia) (by rw[Z9,<-hl];exact h1) (by simpa using ew) ⟨rfl,fin⟩) hs
theorem oU(lo hi:Option Int)(n:Nat):(sliceBounds lo hi none n).1=((HT.sIx n 0 lo:Nat):Int)/\(sliceBounds lo hi none n).2.1=((HT.sIx n n hi:Nat):Int)/\(sliceBounds lo hi none n).2.2=1:=by
 refine⟨?_,?_,rfl⟩
 ·cases lo with
  |none=>simp[sliceBounds,HT.sIx]
  |some i=>
   simp only[sliceBounds,HT.sIx,Uo,show (1:Int)>0 by decide,X6]
   by_cases h:i<0
   ·simp only[h,X6]<;>lia
   ·simp only[h,ZK]<;>lia
 ·cases hi with
  |none=>simp[sliceBounds,HT.sIx]
  |some i=>
   simp only[sliceBounds,HT.sIx,Uo,show (1:Int)>0 by decide,X6]
   by_cases h:i<0
   ·simp only[h,X6]<;>lia
   ·simp only[h,ZK]<;>lia
theorem ox(f':List Value)(lo hi:Option Int):slicePick f'.toArray lo hi none=((f'.drop (HT.sIx f'.length 0 lo)).take (HT.sIx f'.length f'.length hi-HT.sIx f'.length 0 lo)).toArray:=by
 obtain⟨h1,h2,h3⟩:=oU lo hi f'.toArray.size;unfold slicePick;rw[h1,h2,h3];simp only[sliceRange_one,pick_run,Z9]<;>rfl
noncomputable def rSlL(K:Z1):V->Option Int->Option Int->Hp->VK->Prop:=fun x lo hi H Q=>∃a xs,x=.ref a/\SqL K H a xs/\∀p,H p=none->Q (.ref p) (upd H p (.lst (bq xs lo hi)))
theorem fI:SlR X (rSlL X.K):=by
 intro aa s σ H x v vl vu lo hi sl Q I rx hs pl pu h;obtain⟨a,xs,rfl,hx,q⟩:=h;cases rx;obtain⟨f',r,ht,hz⟩:=I.list hx;have hlen:=r.length;refine⟨"list",_,slot_list_getitem.lookup,ht.isList.typeIs,?_⟩;refine wpAny_getItem_list_slice ht.isList hs pl pu .none (by simp) ?_ (by rw[Z9]<;>lia)
 rw[ox,<-hlen];refine⟨.ref s.heap.objs.size,_,I.laid (t':=s.toks) (o:=.lst (bq xs lo hi)) (fun b ob q=>Z_ _ q) (Nat.le_refl _) ?_,rfl,q _ (I.hok.fresh (Nat.le_refl _))⟩;exact⟨Nat.le_trans (qW xs lo hi) hz,_,0,(r.drop (HT.sIx xs.length 0 lo)).take (HT.sIx xs.length xs.length hi-HT.sIx xs.length 0 lo),Zl _ rfl⟩
noncomputable def oK:V->Bool
 | .non=>true
 | .bl _=>true
 | .int _=>true
 | .str _=>true
 |_=>false
noncomputable def eqV:V->V->Bool
 | .non,.non=>true
 | .bl a,.bl b=>a==b
 | .bl a,.int b=>(if a then 1 else 0)==b
 | .int a,.bl b=>a==(if b then 1 else 0)
 | .int a,.int b=>a==b
 | .str a,.str b=>a==b
 |_,_=>false
theorem Br{A:ZT}{s:Shared}{y x:V}{u v:Value}(ry:RelV y u)(rx:RelV x v)(fy:oK y=true)(fx:oK x=true):SeqAt.EqAt A s u v (eqV y x):=by
 cases y with
 |non=>
  cases ry;cases x with
  |non=>cases rx;exact Uf _
  |bl b=>cases rx;exact S0 b
  |int b=>obtain⟨t,rfl⟩:=rx;exact S_ b t
  |str b=>obtain⟨t,rfl⟩:=rx;exact Sz b t
  |_=>exact absurd (show false=true from fx) Zs
 |bl a=>
  cases ry;cases x with
  |non=>cases rx;exact S3 a
  |bl b=>cases rx;exact S4 a b
  |int b=>obtain⟨t,rfl⟩:=rx;exact Sy a b t
  |str b=>obtain⟨t,rfl⟩:=rx;exact Sx a b t
  |_=>exact absurd (show false=true from fx) Zs
 |int a=>
  obtain⟨t',rfl⟩:=ry;cases x with
  |non=>cases rx;exact Sw a t'
  |bl b=>cases rx;exact Sv a t' b
  |int b=>obtain⟨t,rfl⟩:=rx;exact Xl a t' b t
  |str b=>obtain⟨t,rfl⟩:=rx;exact VT a t' b t
  |_=>exact absurd (show false=true from fx) Zs
 |str a=>
  obtain⟨t',rfl⟩:=ry;cases x with
  |non=>cases rx;exact Su a t'
  |bl b=>cases rx;exact Ss a t' b
  |int b=>obtain⟨t,rfl⟩:=rx;exact VU a t' b t
  |str b=>obtain⟨t,rfl⟩:=rx;exact SeqAt.EqAt.str_str a t' b t
  |_=>exact absurd (show false=true from fx) Zs
 |_=>exact absurd (show false=true from fy) Zs
theorem aM:cZ X (.builtin "len") (fun xs H Q=>∃p ys,xs=[.ref p]/\(SqL X.K H p ys\/SqT X.K H p ys)/\Q (.int ys.length) H):=by
 intro aa s σ H xs us Q I r h;obtain⟨p,ys,rfl,hq,q⟩:=h;obtain⟨u,rfl,rx⟩:=vals1 r;cases rx;have hn:=qU;rcases hq with hq|hq
 ·obtain⟨f',r',pl,hz⟩:=I.list hq;have hlen:=r'.length;exact Calls.call_len_list pl.isList (by simp only[Z9]<;>lia) ⟨.int ys.length,H,I.tok _,⟨s.toks+1,by rw[Z9,hlen]⟩,q⟩
 ·obtain⟨f',r',pl,hz⟩:=I.tuple hq;have hlen:=r'.length;exact len_tuple pl (by simp only[Z9]<;>lia) ⟨.int ys.length,H,I.tok _,⟨s.toks+1,by rw[Z9,hlen]⟩,q⟩
theorem jF:cZ X (.type "list") (fun xs H Q=>∃p ys,xs=[.ref p]/\(SqL X.K H p ys\/SqT X.K H p ys)/\∀l,H l=none->Q (.ref l) (upd H l (.lst ys))):=by
 intro aa s σ H xs us Q I r h;obtain⟨p,ys,rfl,hq,q⟩:=h;obtain⟨u,rfl,rx⟩:=vals1 r;cases rx;have fin:∀(f':List Value),aJ ys f'->ys.length<=sizeLine->∀(h':ZE) (c':Nat),(∀b o',s.heap.get? b=some o'->h'.get? b=some o')->
   h'.get? s.heap.objs.size=some {cls:=.type "list",dict:=none,data:=.seq f'.toArray c',slots:=#[]}->EP X aa σ Q (.ref s.heap.objs.size) {s with heap:=h'}:=fun f' r' hz h' c' kp e=>
  ⟨.ref s.heap.objs.size,_,I.laid (t':=s.toks) kp (Nat.le_refl _) (show bh X.prog X.w _ h' _ (.lst ys) from ⟨hz,f',c',r',e⟩),rfl,q _ (I.hok.fresh (Nat.le_refl _))⟩
 rcases hq with hq|hq
 ·obtain⟨f',r',pl,hz⟩:=I.list hq;have hlen:=r'.length;obtain⟨o,ho,hc,n,hd⟩:=pl.isList;exact Tm p (.inl rfl) ho hc hd (fun h' c' kp e=>fin f' r' hz h' c' kp e) (by simp only[Z9]<;>lia)
 ·obtain⟨f',r',pl,hz⟩:=I.tuple hq;have hlen:=r'.length;obtain⟨o,ho,hc,n,hd⟩:=pl;exact Tm p (.inr rfl) ho hc hd (fun h' c' kp e=>fin f' r' hz h' c' kp e) (by simp only[Z9]<;>lia)
noncomputable def tyV(K:Z1)(T:String)(x:V)(H:Hp):Prop:=match x with
 | .str _=>T = "str"
 | .int _=>T = "int"
 | .ref p=>(T = "list" /\ ∃xs,SqL K H p xs)\/(T = "tuple" /\ ∃o,K.lookup p=some o/\o.cls=.type "tuple"/\o.dict=none)\/
   (T = "dict"/\((∃CY,H p=some (.dK CY))\/∃CY,H p=some (.dT CY)))\/(T = "set" /\ ∃S n,H p=some (.set S n))
 |_=>False
theorem w4{aa:List (Addr×Obj)}{σ:St}{H:Hp}{s:Shared}{T:String}{x:V}{v:Value}(I:Inv X aa σ H s)(r:RelV x v)(ty:tyV X.K T x H):
  s.TypeIs v T/\∀a,v=.ref a->∃ob,s.heap.get? a=some ob/\ob.dict=none:=by
 cases x with
 |str z=>
  obtain⟨t,rfl⟩:=r;cases (show T = "str" from ty)
  exact⟨typeIs_str s z t,fun _ e=>nomatch e⟩
 |int i=>
  obtain⟨t,rfl⟩:=r;cases (show T = "int" from ty)
  exact⟨typeIs_int s i t,fun _ e=>nomatch e⟩
 |ref p=>
  cases r;rcases ty with ⟨rfl,xs,hq⟩|⟨rfl,o,hk,hc,hd⟩|⟨rfl,hk⟩|⟨rfl,S,n,hk⟩
  ·obtain⟨f',_,pl,_⟩:=I.list hq;refine⟨pl.isList.typeIs,fun a e=>?_⟩;cases e;obtain⟨o,n,e,c,hd,_⟩:=pl;exact⟨o,e,hd⟩
  ·refine⟨⟨o,I.kIn p o hk,hc⟩,fun a e=>?_⟩;cases e;exact⟨o,I.kIn _ o hk,hd⟩
  ·have z:∃o,s.heap.get? p=some o/\o.ExactDict:=by
    rcases hk with ⟨CY,hk⟩|⟨CY,hk⟩
    ·obtain⟨_,_,_,_,o,_,_,e,ex,_⟩:=I.hok p _ hk;exact⟨o,e,ex⟩
    ·obtain⟨_,_,_,_,o,_,_,e,ex,_⟩:=I.hok p _ hk;exact⟨o,e,ex⟩
   obtain⟨o,e,ex⟩:=z;refine⟨⟨o,e,ex.1⟩,fun a e2=>?_⟩;cases e2;exact⟨o,e,ex.2.1⟩
  ·obtain⟨o,_,_,_,e,ex,_⟩:=I.hok p _ hk;refine⟨⟨o,e,ex.1⟩,fun a e2=>?_⟩;cases e2;exact⟨o,e,ex.2.1⟩
 |_=>exact False.elim ty
noncomputable def tBM0(K:Z1)(T:String)(r:V->List V->Hp->VK->Prop)(to:TE):TE:=fun σ H Q=>to σ H fun x H1=>tyV K T x H1/\r x [] H1 Q
noncomputable def tBM(K:Z1)(T:String)(r:V->List V->Hp->VK->Prop)(to:TE)(t:TA):TE:=fun σ H Q=>to σ H fun x H1=>tyV K T x H1/\t σ H1 fun xs H2=>r x xs H2 Q
variable{o e:Expr}{es:List Expr}{to:TE}{t:TA}{name:Str}{apos C8:Pos}{T id:String}{r:V->List V->Hp->VK->Prop}
theorem vM(pa:PlainAttrs T)(slot:Slot T name id)(Ea:typeOf (.builtin id)=pure (.type "method_descriptor"))(hm:MtR X id r)(ho:PE X o to)
  (Ds:attributeBase o name X.env (eval o X.env)=eval o X.env:=by rfl)(Dt:(apos.endLine==C8.line)=true:=by rfl):PE X (.Call (.Attribute o name apos) [] [] C8) (tBM0 X.K T r to):=by
 intro aa s σ H Q I h;refine wpAny_Call_method0_late Ds Dt (thn (ho aa s σ H _ I h) fun v s1 zz=>?_);obtain⟨x,H1,I1,r1,ty,q1⟩:=zz;obtain⟨h1,h2⟩:=w4 I1 r1 ty;exact⟨T,id,pa,slot,Ea,h1,h2,Vy rfl (PySem.evalArgs_none (hm aa s1 σ H1 x [] v [] Q I1 r1 .nil q1))⟩
theorem ko(pa:PlainAttrs T)(slot:Slot T name id)(Ea:typeOf (.builtin id)=pure (.type "method_descriptor"))(hm:MtR X id r)(ho:PE X o to)(ha:PA X (e::es) t)
  (Ds:attributeBase o name X.env (eval o X.env)=eval o X.env:=by rfl)
  (hfew:((backTo C8 (Zn (e::es) X.env)).all (fun x=>!x.1)&&(backToKw C8 (keywordEach [] X.env)).all (fun x=>x.1.isSome)
   && decide ((e::es).length+([]:List TD).length+(if ([]:List TD).isEmpty then 0 else 1)<30))=true:=by rfl)
  (Dt:(apos.endLine==C8.line)=true:=by rfl)(hs:Zn (e::es) X.env=(false,eval e X.env)::Zn es X.env:=by rfl)(hplain:(backTo C8 (Zn es X.env)).any (·.1)=false:=by rfl):
  PE X (.Call (.Attribute o name apos) (e::es) [] C8) (tBM X.K T r to t):=by
 intro aa s σ H Q I h;refine wpAny_Call_method_late Ds hfew Dt rfl (thn (ho aa s σ H _ I h) fun v s1 zz=>?_);obtain⟨x,H1,I1,r1,ty,q1⟩:=zz;obtain⟨h1,h2⟩:=w4 I1 r1 ty;refine⟨T,id,pa,slot,Ea,h1,h2,?_⟩;have hA:=ha C8 aa s1 σ H1 _ I1 q1;rw[hs]at hA ⊢;refine Vy (by show (false||(backTo C8 (Zn es X.env)).any (·.1))=false;rw[hplain]<;>rfl) (Vc ?_)
 exact thn hA fun us s2 ⟨vs,H2,I2,r2,q2⟩=>hm aa s2 σ H2 x vs v us Q I2 r1 r2 q2
end
end L2
namespace L2
open PySem PySem.Spec PyProof.Rows
noncomputable def MtM(X:Cx)(id:String)(r:V->List V->Hp->VK->Prop):Prop:=
 ∀(aa:List (Addr×Obj)) (s:Shared) (σ:St) (H:Hp) (x:V) (xs:List V) (v:Value) (us:List Value) (Q:VK),Inv X aa σ H s->RelV x v->aJ xs us->r x xs H Q->
  Zv (model X.prog X.w) X.A (call (.builtin id) (v::us)) (EP X aa σ Q) X.xe s
theorem aJ.one:∀{x:V} {us:List Value},aJ [x] us->∃u,us=[u]/\RelV x u
 |_,_,.cons r .nil=>⟨_,rfl,r⟩
theorem aJ.zero:∀{us:List Value},aJ [] us->us=[]
 |_,.nil=>rfl
theorem aJ.dropLast{xs:List V}{us:List Value}(h:aJ xs us):aJ xs.dropLast us.dropLast:=by
 induction h with
 |nil=>exact .nil
 |cons r t ih=>
  cases t with
  |nil=>exact .nil
  |cons q t'=>exact .cons r ih
theorem aJ.eraseIdx:∀{xs:List V} {us:List Value} (i:Nat),aJ xs us->aJ (xs.eraseIdx i) (us.eraseIdx i)
 |_,_,_,.nil=>.nil
 |_,_,0,.cons _ t=>t
 |_,_,i+1,.cons r t=>.cons r (aJ.eraseIdx i t)
theorem aJ.reverse{xs:List V}{us:List Value}(h:aJ xs us):aJ xs.reverse us.reverse:=by
 induction h with
 |nil=>exact .nil
 |cons r t ih=>rw[Y9,Y9];exact aJ.append ih (.cons r .nil)
theorem ue{α:Type}(l:List α):l.eraseIdx (l.length-1)=l.dropLast:=by
 induction l with
 |nil=>rfl
 |cons a r ih=>
  cases r with
  |nil=>rfl
  |cons b r=>
   have e:(a::b::r).length-1=((b::r).length-1)+1:=by
    have h1:(a::b::r).length=r.length+2:=rfl;have h2:(b::r).length=r.length+1:=rfl;lia
   rw[e,List.eraseIdx_cons_succ,ih]
   all_goals rfl
theorem nM{α:Type}:∀(l:List α) (i:Nat),(l.eraseIdx i).length<=l.length
 | [],_=>Nat.le_refl _
 |_::_,0=>Nat.le_succ _
 |_::r,i+1=>Nat.succ_le_succ (nM r i)
section
variable{X:Cx}{aa:List (Addr×Obj)}{σ:St}{H:Hp}{s:Shared}{l b:Addr}{xs ys zs:List V}
theorem Inv.lset{f' its':List Value}{n:Nat}{f:Array Value->Array Value}{t':Nat}(I:Inv X aa σ H s)(hH:H l=some (.lst xs))
  (e:s.heap.get? l=some {cls:=.type "list",data:=.seq f'.toArray n})(hf:f f'.toArray=its'.toArray)(hv:aJ ys its')(hz:ys.length<=sizeLine):
  Inv X aa σ (upd H l (.lst ys)) {s with heap:=s.heap.update l (Ys f),toks:=t'}:=by
 have q:=PySem.IsL.update e f;rw[hf]at q;refine I.write (x:=l) (e:=l) (by rw[hH];exact trivial) (.inl rfl) (fun b' u hb hu=>(YH s.heap (Ys f) (Ne.symm hb)).trans hu) ⟨_,q⟩ ?_
 exact⟨hz,its',_,hv,q⟩
theorem Inv.lnew{f':List Value}{t':Nat}(I:Inv X aa σ H s)(hv:aJ ys f')(hz:ys.length<=sizeLine):
  Inv X aa σ (upd H s.heap.objs.size (.lst ys)) {s with heap:=s.heap.push {cls:=.type "list",data:=.seq f'.toArray},toks:=t'}:=
 I.laid (fun _ _ q=>Z_ _ q) (Nat.le_refl _) ⟨hz,f',0,hv,Zl _ rfl⟩
theorem Inv.fresh(I:Inv X aa σ H s):H s.heap.objs.size=none:=I.hok.fresh (Nat.le_refl _)
theorem Inv.lstM(I:Inv X aa σ H s)(hH:H l=some (.lst xs)):xs.length<=sizeLine/\∃(f':List Value) (n:Nat),aJ xs f'/\xs.length=f'.length/\s.heap.get? l=some {cls:=.type "list",data:=.seq f'.toArray n}:=by
 obtain⟨z,f',n,r,e⟩:=I.hok l _ hH;exact⟨z,f',n,r,r.length,e⟩
theorem xn{n:Nat}(h:n<=sizeLine):XW n=false:=by
 unfold XW;exact ZO (by lia)
end
section
variable{X:Cx}
noncomputable def zY:V->List V->Hp->VK->Prop:=fun x vs H Q=>∃l xs y,x=.ref l/\vs=[y]/\H l=some (.lst xs)/\xs.length<sizeLine/\Q .non (upd H l (.lst (xs++[y])))
theorem iB:MtM X "list.append" zY:=by
 intro aa s σ H x vs v us Q I rx rv h;obtain⟨l,xs,y,rfl,rfl,hH,hz,q⟩:=h;cases rx;obtain⟨u,rfl,ru⟩:=rv.one;obtain⟨z,f',n,r,hl,e⟩:=I.lstM hH;refine VZ F.slot_list_append ⟨_,e,rfl⟩ F.entry_list_append (F.args_list_append_2 _ _) (PySem.list_append l f'.toArray n u (by rw[Z9];lia)) ⟨e,?_⟩
 refine⟨.non,_,I.lset (its':=f'++[u]) hH e (by simp) (r.append (.cons ru .nil)) ?_,rfl,q⟩
 rw[Z5,Yn];lia
noncomputable def Ag:V->List V->Hp->VK->Prop:=fun x vs H Q=>∃l b xs zs,x=.ref l/\vs=[.ref b]/\H l=some (.lst xs)/\H b=some (.lst zs)/\xs.length+zs.length<=sizeLine/\Q .non (upd H l (.lst (xs++zs)))
theorem wI:MtM X "list.extend" Ag:=by
 intro aa s σ H x vs v us Q I rx rv h;obtain⟨l,b,xs,zs,rfl,rfl,hH,hB,hz,q⟩:=h;cases rx;obtain⟨u,rfl,ru⟩:=rv.one;cases ru;obtain⟨z,f',n,r,hl,e⟩:=I.lstM hH;obtain⟨z2,its2,n2,r2,DI,e2⟩:=I.lstM hB;have hsz:f'.toArray.size+its2.toArray.size<=sizeLine:=by rw[Z9,Z9];lia
 have hlong:¬(!f'.toArray.isEmpty&&XW (f'.toArray.size+its2.toArray.size))=true:=by
  rw[xn hsz,WJ];exact Zs
 refine VZ F.slot_list_extend ⟨_,e,rfl⟩ F.entry_list_extend (F.args_list_extend_2 _ _)
  (U_ l f'.toArray n b its2.toArray n2 hlong (by rw[Z9];lia) (by lia)) ⟨e,e2,?_⟩
 refine⟨.non,_,I.lset (its':=f'++its2) hH e (by simp) (r.append r2) ?_,rfl,q⟩
 rw[Z5];lia
noncomputable def rPop:V->List V->Hp->VK->Prop:=fun x vs H Q=>∃l xs y,x=.ref l/\vs=[]/\H l=some (.lst xs)/\xs[xs.length-1]?=some y/\Q y (upd H l (.lst xs.dropLast))
theorem wW:MtM X "list.pop" rPop:=by
 intro aa s σ H x vs v us Q I rx rv h;obtain⟨l,xs,y,rfl,rfl,hH,hy,q⟩:=h;cases rx;have hus:=rv.zero;subst hus;obtain⟨z,f',n,r,hl,e⟩:=I.lstM hH;obtain⟨u,hu,ru⟩:=r.get hy;have hy':f'.toArray[f'.toArray.size-1]?=some u:=by
  show f'.toArray[f'.length-1]?=some u;rw[<-Yx,<-hl];exact hu
 refine VZ F.slot_list_pop ⟨_,e,rfl⟩ F.entry_list_pop (F.args_list_pop_1 _) (TF l f'.toArray n u hy' (by rw[Z9];lia)) ⟨e,?_⟩
 refine⟨y,_,I.lset (its':=f'.dropLast) hH e ?_ r.dropLast ?_,ru,q⟩
 ·show f'.toArray.eraseIdxIfInBounds (f'.toArray.size-1)=f'.dropLast.toArray;rw[Z9,W_,ue]
 ·rw[Y_];lia
noncomputable def BP:V->List V->Hp->VK->Prop:=fun x vs H Q=>∃l xs i k y,x=.ref l/\vs=[.int i]/\H l=some (.lst xs)/\-(2^63)<=i/\i<2^63/\seqIndex? i xs.length=some k/\xs[k]?=some y/\Q y (upd H l (.lst (xs.eraseIdx k)))
theorem xz:MtM X "list.pop" BP:=by
 intro aa s σ H x vs v us Q I rx rv h;obtain⟨l,xs,i,k,y,rfl,rfl,hH,h1,h2,hk,hy,q⟩:=h;cases rx;obtain⟨u,rfl,ru⟩:=rv.one;obtain⟨t,rfl⟩:=ru;obtain⟨z,f',n,r,hl,e⟩:=I.lstM hH;obtain⟨w,hw,rw'⟩:=r.get hy;refine VZ F.slot_list_pop ⟨_,e,rfl⟩ F.entry_list_pop (F.args_list_pop_2 _ _)
  (S5 l f'.toArray n i t k w (fitsIndex_both h1 h2) (by rw[Z9,<-hl];exact hk) (by rw[<-Yx];exact hw) (by rw[Z9];lia)) ⟨e,?_⟩
 refine⟨y,_,I.lset (its':=f'.eraseIdx k) hH e ?_ (r.eraseIdx k) ?_,rw',q⟩
 ·show f'.toArray.eraseIdxIfInBounds k=(f'.eraseIdx k).toArray;rw[W_]
 ·have:=nM xs k
  lia
noncomputable def rCat:R2:=fun x y H Q=>∃l b xs zs,x=.ref l/\y=.ref b/\H l=some (.lst xs)/\H b=some (.lst zs)/\xs.length+zs.length<=sizeLine/\∀p,H p=none->Q (.ref p) (upd H p (.lst (xs++zs)))
theorem gG:OpR X (binaryOp .Add) rCat:=by
 intro aa s σ H x y v u Q I rx ry h;obtain⟨l,b,xs,zs,rfl,rfl,hH,hB,hz,q⟩:=h;cases rx;cases ry;obtain⟨z,f',n,r,hl,e⟩:=I.lstM hH;obtain⟨z2,its2,n2,r2,DI,e2⟩:=I.lstM hB;refine PySem.P.add_list e e2 ?_ (by rw[Z9,Z9];lia)
 have ea:f'.toArray++its2.toArray=(f'++its2).toArray:=by simp
 rw[ea];exact⟨.ref _,_,I.lnew (t':=s.toks) (r.append r2) (by rw[Z5];lia),rfl,q _ I.fresh⟩
end
section
variable{prog:Zy}{w:Zm}{A:ZT}{E:Value->Shared->Prop}{s:Shared}
end
section
variable{X:Cx}
end
end L2
namespace Att
open PySem PySem.W PySem.Calls PyProof.Rows
theorem l4{P:UE}{h:ZE}:∀(ns:List Int) (vs:List Value),WellAll P h vs (ns.map WData.int)->Uc vs ns:=by
 intro ns
 induction ns with
 |nil=>
  intro vs w;rw[W4]at w;cases w;exact .nil
 |cons n ns ih=>
  intro vs w;rw[ZI]at w;cases w with
  |cons a b=>
   cases a;exact .cons _ _ (ih _ b)
theorem wq{l:OpenLaw}{n:Nat}(hn:l.most=some n){P:UE}{h:ZE}{args:List WData}{vals:List Value}
  (DG:l.row.toRowW.claim.pre args=true)(Eb:WellAll P h vals args):
  ∃a vs ns,vals=[Value.ref a]/\args=[WData.list (ns.map WData.int)]/\h.get? a=some {cls:=.type "list",data:=.seq vs.toArray}/\Uc vs ns/\ns.length<=n:=by
 have hsh:WShape.hasAll [] args [.list .int]=true:=(pre_splitW DG).1;have hc:l.pre.holds [] {args:=args}=true:=(pre_splitW DG).2;obtain⟨d,r,rfl,h1,h2⟩:=hasAllW_cons hsh;obtain rfl:=hasAllW_nil h2;obtain⟨xs,rfl,h3⟩:=hasW_list h1;obtain⟨ns,rfl⟩:=items_int h3;have hlen:ns.length<=n:=by
  unfold OpenLaw.pre at hc;have h4:(WTm.not (.lt (.lit (.int (n:Int))) (.len (.arg 0)))).holds [] {args:=[.list (ns.map .int)]}=true:=by
   have h4:=(holds_andW hc).1;rw[hn]at h4;exact h4
  have h5:=condW_of h4 (w_not (w_lt w_lit (w_len_list (w_arg rfl))));rw[Z7]at h5;refine Nat.le_of_not_lt fun q=>?_;have q':(n:Int)<((ns.length:Nat):Int):=by lia
  first
   | (rw[Zo q']at h5;exact absurd h5 (by decide))
   | (simp at h5;lia)
 cases Eb with
 |cons w1 w2=>
  cases w2;cases w1 with
  |list ho hall=>exact⟨_,_,ns,rfl,rfl,ho,l4 ns _ hall,hlen⟩
theorem vH(l:OpenLaw)(args:List WData):l.row.toRowW.claim.post args (.bool true) args=true:=
 postW_of (r:=l.row.toRowW) (X:=(true==true))
  (show WShape.has [] (.bool true) .bool=true by first|rfl|decide|simp[WShape.has,WShape.arms,WShape.armsAll])
  (show (WTm.eq .res (.lit (.bool true))).value [] {args:=args,res:=some (.bool true),after:=args}=some (.bool (true==true)) from w_eq_bool (w_res rfl) w_lit) rfl
theorem attach_call{l:OpenLaw}{n:Nat}{q:Zy}{loose:List Str}{XP:(Str->Option Value)->ZE->Prop}{YP:Zm->ZE->Prop}{d:DefRec}
  (hn:l.most=some n)(DX:d.params.defaults=[])
  (call:∀(w:Zm) (s₀ s₁:Shared) (mg mb:Str->Option Value) (fa:Addr) (o:Obj) (pm cd doc:Value) (a:Addr) (vs:List Value) (ns:List Int),
   Ground q loose [] XP w s₀ mg mb s₁.heap->YP w s₁.heap->
   s₁.heap.get? fa=some o->o.data=.func (docDef d.name d.params d.body d.scope pm cd doc)->s₁.heap.CodeRec cd d.name->mg d.name=some (.ref fa)->
   s₁.heap.get? a=some {cls:=.type "list",data:=.seq vs.toArray}->Uc vs ns->ns.length<=n->s₁.gens=#[]->
   XJ (model l.prog w) callerA (.call (.ref fa) ⟨[.ref a],[]⟩) (fun r s'=>r=.ok (.ret (.bool true))/\OldK s₁.heap s'.heap/\s'.os=s₁.os/\Wm s'.gens) s₁):
  WalkO q loose XP YP l.row.toRowW d [] (fun f vs=>UF f vs):=by
 intro w s₀ s₁ mg mb G Y fa o pm cd doc dV kV ho hd Dj hD hmg hg args vals as DG hlay hrd Eb hlo;obtain rfl:dV=.none:=Dflts.none hD DX;obtain rfl:kV=.none:=Dflts.noKw hD;obtain⟨a,vs,ns,rfl,rfl,hobj,hints,hlen⟩:=wq hn DG Eb;refine enter_call (XM (call w s₀ s₁ mg mb fa o pm cd doc a vs ns G Y ho (fd_plain hd) Dj hmg hobj hints hlen hg) fun r s' hq=>?_);obtain⟨rfl,h2,h3,h4⟩:=hq;exact⟨.inl ⟨.bool true,.bool true,[],rfl,fun _=>rfl,.bool true,vH l _,fun _=>⟨List.Pairwise.nil,fun _ hm=>(nomatch hm)⟩⟩,h2,h3,h4⟩
section
variable{prog:Zy}{w:Zm}{A:ZT}{E:Value->Shared->Prop}{s:Shared}{K:Frag}
end
end Att
namespace L2
open PySem PySem.Spec PyProof.Rows
theorem nQ:∀{vs:List Value} {ns:List Int},Uc vs ns->aJ (ns.map V.int) vs
 |_,_,.nil=>.nil
 |_,_,.cons n t h=>.cons ⟨t,rfl⟩ (nQ h)
noncomputable def xF(H:Hp):Prop:=∀b,H b=none\/∃o xs,H b=some (.frz o (.lst xs))
theorem yP{P:Zy}{w:Zm}{K:Z1}{mg mb:Str->Option Value}{CX:CXT}{k:Nat}{fa a:Addr}{fd:ZD}{x:Str}{sp:Sp}{s₁:Shared}{vs:List Value}{ns:List Int}
  (KX:K.In s₁.heap)(Ep:s₁.heap.Ns ZV mg)(hb:s₁.heap.Ns builtinsNs mb)(hbb:∀x:Str,x ≠ "__name__"->mb x=bootBuiltins x)(hlim:s₁.heap.NoLimit)(hg:s₁.gens=#[])
  (ha:s₁.heap.get? a=some {cls:=.type "list",data:=.seq vs.toArray})(hi:Uc vs ns)(hl:ns.length<=sizeLine)(hr:dw k callerA)
  (F:∀base:ZE,K.In base->base.Ns ZV mg->FnOk P w K mg base CX k fa fd [x] sp)(hbind:∀(s:Shared) (u:Value),U9 s fd ⟨[u],[]⟩ [(x,u)])
  (Dq:∀H:Hp,xF H->SqL K H a (ns.map V.int)->sp [.ref a] H (fun v _=>v=.bl true) fun _ _ _=>False)
  (Ec:∀H e s',CX [] H s₁ (fun _ _ _=>False) e s'->False):
  XJ (model P w) callerA (.call (.ref fa) ⟨[.ref a],[]⟩) (fun r s'=>r=.ok (.ret (.bool true))/\OldK s₁.heap s'.heap/\s'.os=s₁.os/\Wm s'.gens) s₁:=by
 have rv:=nQ hi;have lenV:=hi.length;have core:∀H:Hp,xF H->SqL K H a (ns.map V.int)->HOk P w H s₁.heap->(∀b,H b≠none->b=a)->(H a≠none->K.lookup a=none)->
   XJ (model P w) callerA (.call (.ref fa) ⟨[.ref a],[]⟩) (fun r s'=>r=.ok (.ret (.bool true))/\OldK s₁.heap s'.heap/\s'.os=s₁.os/\Wm s'.gens) s₁:=by
  intro H hO hS hok hA hK;have base_of:∀{b:Addr} {o:Obj},s₁.heap.get? b=some o->H b=none->(jc s₁.heap H).get? b=some o:=fun e n=>yk e n;have noA:∀{b:Addr} {o:Obj} {es:Array W0} {ep:Nat},s₁.heap.get? b=some o->o.data=.dict es ep->H b=none:=fun {b o es ep} e d=>by
   cases q:H b with
   |none=>rfl
   |some u=>
    have e':b=a:=hA b (by rw[q];simp)
    subst e';rw[ha]at e;cases e;have d':Data.seq vs.toArray _=Data.dict es ep:=d;cases d'
  have nsK:∀{b:Addr} {m:Str->Option Value},s₁.heap.Ns b m->(jc s₁.heap H).Ns b m:=fun {b m} ⟨o,es,ep,e,d,r⟩=>⟨o,es,ep,base_of e (noA e d),d,r⟩;have DT:K.In (jc s₁.heap H):=fun b o e=>base_of (KX b o e) (by
   cases q:H b with
   |none=>rfl
   |some u=>
    have e':b=a:=hA b (by rw[q];simp)
    subst e';rw[hK (by rw[q];simp)]at e;cases e)
  have hM:Mod K mg (jc s₁.heap H):=⟨DT,nsK Ep,⟨mb,nsK hb,hbb⟩,let ⟨mc,h1,h2⟩:=hlim;⟨mc,nsK h1,h2⟩⟩;have e0:uV P w K mg (jc s₁.heap H) callerA [] s₁ H:=⟨rfl,hM,fun b o e=>Ay e,Nat.le_of_eq (vA _ _),trivial,fun b hb=>absurd (show b∈([]:List Addr) from hb) (by simp),hok,.of_eq hg⟩
  refine XM ((F _ DT (nsK Ep)).run callerA [] s₁ H ⟨[.ref a],[]⟩ [.ref a] [.ref a] _ _ hr e0 (hbind s₁ (.ref a)) (.cons rfl .nil) (Dq H hO hS)) fun r s' h=>?_;cases r with
  |error e=>exact (Ec H e s' h).elim
  |ok fl=>
   cases fl with
   |next=>exact False.elim h
   |brk=>exact False.elim h
   |cont=>exact False.elim h
   |ret u=>
    obtain⟨v,H',os,bare,un,hok',r',q⟩:=h;have q':v=.bl true:=q;subst q';obtain rfl:u=Value.bool true:=r';refine⟨rfl,OldK.of_keep fun b o e=>?_,os,bare⟩;cases q:H b with
    |none=>exact un.keep b o e q (by intro z;exact absurd (show b∈([]:List Addr) from z) (by simp)) (by simp)
    |some u=>
     rcases hO b with z|⟨ob,xs,z⟩
     ·rw[q]at z;cases z
     ·have z2:=un.frzs b ob _ z;obtain⟨e1,_⟩:=hok b _ z;obtain⟨e2,_⟩:=hok' b _ z2;rw[e]at e1;cases e1;exact e2
 cases hk:K.lookup a with
 |some o=>
  have e:=KX a o hk;rw[ha]at e;cases e;refine core (fun _=>none) (fun _=>.inl rfl) (.inr ⟨_,vs.toArray,_,hk,rfl,rfl,rfl,by rw[Z9,lenV];exact hl,by simpa using rv⟩) (fun b u z=>by have z':(none:Option HO)=some u:=z;cases z') (fun b z=>absurd rfl z) fun z=>absurd rfl z
 |none=>
  refine core (fun b=>if b=a then some (.frz {cls:=.type "list",data:=.seq vs.toArray} (.lst (ns.map V.int))) else none) (fun b=>?_) (.inl (.inr ⟨{cls:=.type "list",data:=.seq vs.toArray},if_pos rfl⟩)) (fun b u z=>?_) (fun b z=>?_) fun _=>hk
  ·by_cases hb:b=a
   ·exact .inr ⟨_,_,if_pos hb⟩
   ·exact .inl (if_neg hb)
  ·by_cases hb:b=a
   ·have z':=(if_pos hb).symm.trans z;cases z';subst hb;exact⟨ha,by rw[Z7];exact hl,vs,_,rv,ha⟩
   ·have z':=(if_neg hb).symm.trans z;cases z'
  ·by_cases hb:b=a
   ·exact hb
   ·exact absurd (if_neg hb) z
end L2
namespace L2
open PySem PySem.Spec PyProof.Rows
theorem zT{l:Vp}{n k:Nat}{q:Zy}{loose:List Str}{XP:(Str->Option Value)->ZE->Prop}{YP:Zm->ZE->Prop}{d:DefRec}{K:UE->Z1}{CX:Zm->CXT}{sp:Zm->Sp}{x:Str}
  (hn:l.most=some n)(Er:n<=sizeLine)(DX:d.params.defaults=[])(hr:dw k callerA)
  (hY:∀(w:Zm) (h:ZE),YP w h->(K w.params).In h)
  (F:∀(w:Zm) (mg:Str->Option Value) (fa:Addr) (h:ZE),(K w.params).In h->h.Ns ZV mg->mg d.name=some (.ref fa)->
   ∃fd:ZD,(∀(s:Shared) (u:Value),U9 s fd ⟨[u],[]⟩ [(x,u)])/\
    ∀base:ZE,(K w.params).In base->base.Ns ZV mg->FnOk l.prog w (K w.params) mg base (CX w) k fa fd [x] (sp w))
  (Dq:∀(w:Zm) (H:Hp) (a:Addr) (ns:List Int),ns.length<=n->xF H->SqL (K w.params) H a (ns.map V.int)->sp w [.ref a] H (fun v _=>v=.bl true) fun _ _ _=>False)
  (Ec:∀(w:Zm) (H:Hp) (s:Shared) (e:Value) (s':Shared),CX w [] H s (fun _ _ _=>False) e s'->False):
  Tl q loose XP YP l.row.toRowW d [] (fun f vs=>UF f vs):=by
 refine Att.attach_call hn DX fun w s₀ s₁ mg mb fa o pm cd doc a vs ns G Y ho hd Dj hmg hobj hints hlen hg=>?_;have KX:=hY w _ Y;obtain⟨fd,hb,hF⟩:=F w mg fa _ KX G.T.g hmg;exact yP KX G.T.g G.T.b G.T.builtins G.T.nolimit hg hobj hints (Nat.le_trans hlen Er) hr hF hb (fun H hO hS=>Dq w H a ns hlen hO hS) fun H e s'=>Ec w H s₁ e s'
end L2
namespace L2
open PySem PySem.Spec PyProof.Rows
noncomputable def fG(s:Stmt):Arguments:=match s with
 | .FunctionDef _ a _ _ _ _ _ _ _ _=>a
 |_=>{posonlyargs:=[],args:=[],vararg:=none,kwonlyargs:=[],kw_defaults:=[],kwarg:=none,defaults:=[]}
noncomputable def cV(s:Stmt):List Stmt:=match s with
 | .FunctionDef _ _ b _ _ _ _ _ _ _=>b
 |_=>[]
noncomputable def au(s:Stmt):XT:=match s with
 | .FunctionDef _ _ _ _ _ _ sc _ _ _=>sc
 |_=>{kind:=.function,names:=[],isGenerator:=false,isCoroutine:=false}
noncomputable abbrev CX0:CXT:=fun _ _ _ _ _ _=>False
noncomputable abbrev E0:XK:=fun _ _ _=>False
theorem CQ{X:Cx}:p_ CX0 X E0:=fun _ _ _ _ _ _ _ h=>h.elim
structure Fun(K:Z1)(x qual:Str)(st:Stmt)(f:Addr)(fd:ZD):Prop where
 ex:∃(oc:Value) (od:Option Addr) (kV doc pm:Value) (an:Option Addr) (C6 ct:Value) (Dz:Array (Option Value)),
  fd=X1 x qual (fG st) (cV st) (au st) .none kV doc pm an C6 ct/\K.lookup f=some ⟨oc,od,.func fd,Dz⟩/\WI K C6 qual=true
 kp:YG K (.ref f)=true
section
variable{P:Zy}{w:Zm}{K:Z1}{mg:Str->Option Value}{base:ZE}
theorem Fun.ok{x qual:Str}{st:Stmt}{f:Addr}{fd:ZD}{N ps:List Str}{k:Nat}{sp:Sp}(F:Fun K x qual st f fd)(S:aD N ps (au st))(len:∀vs H Q E,sp vs H Q E->vs.length=ps.length)
  (Dc:∀(C6:Value) (A:ZT) (outer:List Env) (s:Shared) (H:Hp) (vs:List V) (Q:VK) (E:XK),dw k (A.deeper (envOfC qual (au st) s.heap.objs.size f C6))->sp vs H Q E->
   ∃t,PSs (hZ CX0 P w K mg base N qual (au st) f C6 A outer s H E).nox (cV st) t/\t {nx:=fun _ H'=>Q .non H',rt:=Q} (start N vs) H):FnOk P w K mg base CX0 (k+1) f fd ps sp:=by
 obtain⟨oc,od,kV,doc,pm,an,C6,ct,Dz,rfl,lk,Dj⟩:=F.ex;refine y9 lk Dj S len fun A outer s H vs Q E hr Dq=>?_;obtain⟨t,h,q⟩:=Dc C6 A outer s H vs Q E hr Dq;exact⟨t,h.nox,q⟩
theorem Fun.binds{x qual:Str}{st:Stmt}{f:Addr}{fd:ZD}{ps:List Str}(F:Fun K x qual st f fd)
  (h:∀(kV doc pm:Value) (an:Option Addr) (C6 ct:Value) (us:List Value),us.length=ps.length->bindArgs (X1 x qual (fG st) (cV st) (au st) .none kV doc pm an C6 ct) ⟨us,[]⟩=pure (ps.zip us)):Binds K fd ps []:=by
 obtain⟨oc,od,kV,doc,pm,an,C6,ct,Dz,rfl,lk,Dj⟩:=F.ex;exact .all (h kV doc pm an C6 ct)
theorem A6{x qual:Str}{st:Stmt}{f:Addr}{oc:Value}{od an:Option Addr}{Dz:Array (Option Value)}{kV doc pm C6 ct:Value}(l:K.lookup f=some ⟨oc,od,.func (X1 x qual (fG st) (cV st) (au st) .none kV doc pm an C6 ct),Dz⟩)
  (c:WI K C6 qual=true)(k:YG K (.ref f)=true):Fun K x qual st f (X1 x qual (fG st) (cV st) (au st) .none kV doc pm an C6 ct):=⟨⟨oc,od,kV,doc,pm,an,C6,ct,Dz,rfl,l,c⟩,k⟩
end
theorem jh{n:Nat}(h:n<=1000):n<sizeLine:=Nat.lt_of_le_of_lt h (by decide)
section
variable{X:Cx}
theorem pv(i:Nat){x:Str}{pos:Pos}(hN:X.N[i]?=some x:=by rfl)(hv:Vis X.env.scope x:=by first|exact ZQ rfl|exact TB (ZQ rfl)|exact TB (TB rfl))(hd:(x==("__debug__" : Str))=false:=by decide)
  (Dj:(x==("__classdict__" : Str))=false:=by decide):PE X (.Name x pos) (dO i):=Cg hN hv hd Dj
end
theorem eH{A B:Prop}(h:B):if false=true then A else B:=by
 rw[if_neg Zs];exact h
theorem dt{A B:Prop}(h:A):if true=true then A else B:=by
 rw[if_pos rfl];exact h
theorem a9{c A B:Prop}[Decidable c](h1:c->A)(h2:¬c->B):if c then A else B:=by
 by_cases h:c
 ·rw[if_pos h];exact h1 h
 ·rw[if_neg h];exact h2 h
noncomputable def av(H H':Hp):Prop:=∀b o,H b=some o->H' b=some o
theorem av.refl(H:Hp):av H H:=fun _ _ h=>h
theorem av.trans{H H1 H2:Hp}(a:av H H1)(b:av H1 H2):av H H2:=fun c o h=>b c o (a c o h)
theorem av.seq{K:Z1}{H H':Hp}{a:Addr}{xs:List V}(e:av H H')(h:SqL K H a xs):SqL K H' a xs:=by
 rcases h with (h|⟨o,h⟩)|h
 ·exact .inl (.inl (e _ _ h))
 ·exact .inl (.inr ⟨o,e _ _ h⟩)
 ·exact .inr h
end L2
end
section
namespace FD
open PySem PySem.W L2
noncomputable def zt(i:Nat):Stmt:=PySem.Challenge.pw_fencefield_k15_whole_least_triangles.main.body.getD i (.Pass ⟨0,0,0,0⟩)
noncomputable def hf(n:Str)(st:Stmt)(md:Value)(cd:Addr):Obj:={cls:=.type "function",data:=.func (X1 n n (fG st) (cV st) (au st) .none .none .none md none (.ref cd) .none)}
noncomputable def vS(x:Str)(t:Tok):Value:=.str x t
noncomputable def vI(n:Int):Value:=.int n 0
noncomputable def en(P:UE)(x:Str)(t:Tok)(v:Value):W0:={hash:=PyData.keyHash P x,key:=.str x t,val:=v}
noncomputable def co(vs:List Value):Obj:={cls:=.type "code",data:=.fields vs.toArray}
noncomputable def ck(n:Str)(t:Tok)(l a g:Int)(r:Addr)(k t3:Int):Obj:=co [vS n t,vS n (t+1),vS "/claim/cut.py" (t+2),vI l,vI a,vI 0,vI 0,vI g,.ref r,.bool true,vI k,.ref (r+1),.none,.ref (r+2),.ref (r+3),.ref (r+4),vI t3,vI l,vS "/claim/cut.py" (t3+1).toNat]
noncomputable def cj(n:Str)(t:Tok)(l a:Int)(r:Addr):Obj:=co [vS n t,vS n (t+1),vS "/claim/cut.py" (t+2),vI l,vI a,vI 0,vI 0,vI 3,.ref r,.bool true,vI 181,.ref (r+1),.none,.none,.none,.ref (r+2),vI ((t+3:Nat):Int),vI l,vS "/claim/cut.py" (t+4)]
noncomputable def KK(P:UE):Z1:=[(3,{cls:=.type "dict",data:=.dict #[en P "__name__" 165 (vS "law_fencefield_k15_whole_least_triangles" 453),en P "__doc__" 166 (.none),en P "__package__" 167 (.none),en P "__loader__" 168 ((Value.builtin "__main__.__loader__#opaque")),en P "__spec__" 169 (.none),en P "__annotations__" 170 (.ref 6),en P "__builtins__" 171 (.ref 4),en P "__file__" 173 (vS "/claim/cut.py" 172),en P "__cached__" 174 (.none),en P "FenceError" 206 (.ref 24),en P "NoFence" 222 (.ref 37),en P "NoTurning" 238 (.ref 49),en P "TooWide" 254 (.ref 61),en P "turn" 267 (.ref 70),en P "between" 276 (.ref 77),en P "lies_on" 285 (.ref 84),en P "parts" 295 (.ref 91),en P "sides_meet" 305 (.ref 98),en P "goes_back" 316 (.ref 105),en P "FEWEST_CORNERS" 320 ((.int 3 319)),en P "MOST_CORNERS" 322 ((.int 12 321)),en P "is_fence" 329 (.ref 112),en P "double_area" 336 (.ref 119),en P "goes_left" 343 (.ref 126),en P "refuse_no_fence" 350 (.ref 133),en P "sides_of" 357 (.ref 140),en P "some_side_goes_back" 365 (.ref 147),en P "some_sides_meet" 377 (.ref 154),en P "signed_double_area" 383 (.ref 159),en P "WIDEST" 387 ((.int 60 386)),en P "least_triangles" 397 (.ref 166),en P "doubled_area" 404 (.ref 173),en P "corner_triangles" 410 (.ref 178),en P "loose_triangle" 416 (.ref 183),en P "is_loose" 422 (.ref 188),en P "holds" 428 (.ref 193),en P "point_within" 434 (.ref 198),en P "step_into" 446 (.ref 205),en P "split_at" 452 (.ref 210),en P "_law_cell_at" 462 (.ref 217),en P "_law_draw" 472 (.ref 224),en P "_law_cross" 482 (.ref 231),en P "_law_rows_by" 497 (.ref 238),en P "_law_joined" 507 (.ref 245),en P "_law_spiral" 517 (.ref 252),en P "_law_flat" 523 (.ref 257),en P "_law_fence_by" 529 (.ref 262),en P "_law_turning_by" 543 (.ref 269),en P "_law_led" 557 (.ref 276),en P "_law_sum" 568 (.ref 283),en P "_law_whole" 575 (.ref 290),en P "_law_points_are" 584 (.ref 297),en P "_law_common" 593 (.ref 304),en P "_law_steps" 608 (.ref 311),en P "_law_gone" 620 (.ref 318),en P "_law_fills" 631 (.ref 325),en P "_law_refused" 640 (.ref 332),en P "law" 646 (.ref 337)] 58}),
 (70,hf "turn" (zt 6) (vS "fencefield.sides" 255) 69),
 (69,ck "turn" 257 11 3 3 64 181 265),
 (77,hf "between" (zt 7) (vS "fencefield.sides" 255) 76),
 (76,ck "between" 268 15 3 3 71 181 274),
 (84,hf "lies_on" (zt 8) (vS "fencefield.sides" 255) 83),
 (83,ck "lies_on" 277 17 3 3 78 181 283),
 (91,hf "parts" (zt 9) (vS "fencefield.sides" 255) 90),
 (90,ck "parts" 286 21 4 3 85 181 293),
 (98,hf "sides_meet" (zt 10) (vS "fencefield.sides" 255) 97),
 (97,ck "sides_meet" 296 23 4 3 92 181 303),
 (105,hf "goes_back" (zt 11) (vS "fencefield.sides" 255) 104),
 (104,ck "goes_back" 306 29 3 3 99 181 314),
 (140,hf "sides_of" (zt 19) (vS "fencefield.fences" 317) 139),
 (139,ck "sides_of" 351 53 1 3 134 181 355),
 (147,hf "some_side_goes_back" (zt 20) (vS "fencefield.fences" 317) 146),
 (146,ck "some_side_goes_back" 358 55 1 3 141 181 363),
 (154,hf "some_sides_meet" (zt 21) (vS "fencefield.fences" 317) 153),
 (153,ck "some_sides_meet" 366 60 1 3 148 181 375),
 (112,hf "is_fence" (zt 15) (vS "fencefield.fences" 317) 111),
 (111,ck "is_fence" 323 38 1 3 106 181 327),
 (133,hf "refuse_no_fence" (zt 18) (vS "fencefield.fences" 317) 132),
 (132,ck "refuse_no_fence" 344 50 1 3 127 181 348),
 (159,hf "signed_double_area" (zt 22) (vS "fencefield.fences" 317) 158),
 (158,cj "signed_double_area" 378 68 1 155),
 (119,hf "double_area" (zt 16) (vS "fencefield.fences" 317) 118),
 (118,ck "double_area" 330 44 1 3 113 181 334),
 (126,hf "goes_left" (zt 17) (vS "fencefield.fences" 317) 125),
 (125,ck "goes_left" 337 47 1 3 120 181 341),
 (173,hf "doubled_area" (zt 26) (vS "fencefield.cutting" 384) 172),
 (172,ck "doubled_area" 398 84 1 3 167 181 402),
 (193,hf "holds" (zt 30) (vS "fencefield.cutting" 384) 192),
 (192,cj "holds" 423 100 2 189),
 (188,hf "is_loose" (zt 29) (vS "fencefield.cutting" 384) 187),
 (187,cj "is_loose" 417 97 2 184),
 (183,hf "loose_triangle" (zt 28) (vS "fencefield.cutting" 384) 182),
 (182,cj "loose_triangle" 411 94 1 179),
 (178,hf "corner_triangles" (zt 27) (vS "fencefield.cutting" 384) 177),
 (177,cj "corner_triangles" 405 86 1 174),
 (205,hf "step_into" (zt 32) (vS "fencefield.cutting" 384) 204),
 (204,ck "step_into" 435 108 3 3 199 181 444),
 (198,hf "point_within" (zt 31) (vS "fencefield.cutting" 384) 197),
 (197,cj "point_within" 429 102 1 194),
 (210,hf "split_at" (zt 33) (vS "fencefield.cutting" 384) 209),
 (209,cj "split_at" 447 113 2 206),
 (166,hf "least_triangles" (zt 25) (vS "fencefield.cutting" 384) 165),
 (165,ck "least_triangles" 388 72 1 3 160 181 395),
 (217,hf "_law_cell_at" (zt 35) (vS "law_fencefield_k15_whole_least_triangles" 453) 216),
 (216,ck "_law_cell_at" 455 117 2 3 211 181 460),
 (224,hf "_law_draw" (zt 36) (vS "law_fencefield_k15_whole_least_triangles" 453) 223),
 (223,ck "_law_draw" 463 121 3 3 218 181 470),
 (238,hf "_law_rows_by" (zt 38) (vS "law_fencefield_k15_whole_least_triangles" 453) 237),
 (237,ck "_law_rows_by" 483 128 2 3 232 181 495),
 (245,hf "_law_joined" (zt 39) (vS "law_fencefield_k15_whole_least_triangles" 453) 244),
 (244,ck "_law_joined" 498 140 3 3 239 181 505),
 (252,hf "_law_spiral" (zt 40) (vS "law_fencefield_k15_whole_least_triangles" 453) 251),
 (251,ck "_law_spiral" 508 147 1 3 246 181 515),
 (257,hf "_law_flat" (zt 41) (vS "law_fencefield_k15_whole_least_triangles" 453) 256),
 (256,cj "_law_flat" 518 152 2 253),
 (262,hf "_law_fence_by" (zt 42) (vS "law_fencefield_k15_whole_least_triangles" 453) 261),
 (261,cj "_law_fence_by" 524 162 2 258),
 (231,hf "_law_cross" (zt 37) (vS "law_fencefield_k15_whole_least_triangles" 453) 230),
 (230,ck "_law_cross" 473 125 3 3 225 181 480),
 (269,hf "_law_turning_by" (zt 43) (vS "law_fencefield_k15_whole_least_triangles" 453) 268),
 (268,ck "_law_turning_by" 530 177 3 3 263 181 541),
 (276,hf "_law_led" (zt 44) (vS "law_fencefield_k15_whole_least_triangles" 453) 275),
 (275,ck "_law_led" 544 184 2 3 270 181 555),
 (283,hf "_law_sum" (zt 45) (vS "law_fencefield_k15_whole_least_triangles" 453) 282),
 (282,ck "_law_sum" 558 187 1 3 277 181 566),
 (290,hf "_law_whole" (zt 46) (vS "law_fencefield_k15_whole_least_triangles" 453) 289),
 (289,ck "_law_whole" 569 194 1 3 284 181 573),
 (297,hf "_law_points_are" (zt 47) (vS "law_fencefield_k15_whole_least_triangles" 453) 296),
 (296,ck "_law_points_are" 576 196 2 3 291 181 582),
 (304,hf "_law_common" (zt 48) (vS "law_fencefield_k15_whole_least_triangles" 453) 303),
 (303,ck "_law_common" 585 203 2 3 298 181 591),
 (311,hf "_law_steps" (zt 49) (vS "law_fencefield_k15_whole_least_triangles" 453) 310),
 (310,ck "_law_steps" 594 211 1 3 305 181 606),
 (318,hf "_law_gone" (zt 50) (vS "law_fencefield_k15_whole_least_triangles" 453) 317),
 (317,ck "_law_gone" 609 222 1 3 312 181 618),
 (325,hf "_law_fills" (zt 51) (vS "law_fencefield_k15_whole_least_triangles" 453) 324),
 (324,ck "_law_fills" 621 234 2 3 319 181 629),
 (332,hf "_law_refused" (zt 52) (vS "law_fencefield_k15_whole_least_triangles" 453) 331),
 (331,ck "_law_refused" 632 246 1 3 326 181 638),
 (337,hf "law" (zt 53) (vS "law_fencefield_k15_whole_least_triangles" 453) 336),
 (336,cj "law" 641 254 1 333),
 (24,{cls:=.type "type",data:=UG   {name:=ZN "FenceError",bases:=[Value.type "ValueError"],     mro :=       [Value.ref 24,Value.type "ValueError",Value.type "Exception",Value.type "BaseException",Value.type "object"],     ns:=23,qualname:=ZN "FenceError",subclasses:=[Value.ref 37,Value.ref 49,Value.ref 61]},slots:=#[some (Value.ref 15),none,some (Value.str (ZN "FenceError") 189),some (Value.str (ZN "FenceError") 197),some (Value.builtin "ValueError.__new__"),some (Value.bool true)]}),
 (37,{cls:=.type "type",data:=UG   {name:=ZN "NoFence",bases:=[Value.ref 24],     mro :=       [Value.ref 37,Value.ref 24,Value.type "ValueError",Value.type "Exception",Value.type "BaseException",         Value.type "object"],     ns:=36,qualname:=ZN "NoFence"},slots:=#[some (Value.ref 28),none,some (Value.str (ZN "NoFence") 207),some (Value.str (ZN "NoFence") 215),some (Value.builtin "ValueError.__new__"),some (Value.bool true)]}),
 (49,{cls:=.type "type",data:=UG   {name:=ZN "NoTurning",bases:=[Value.ref 24],     mro :=       [Value.ref 49,Value.ref 24,Value.type "ValueError",Value.type "Exception",Value.type "BaseException",         Value.type "object"],     ns:=48,qualname:=ZN "NoTurning"},slots:=#[some (Value.ref 40),none,some (Value.str (ZN "NoTurning") 223),some (Value.str (ZN "NoTurning") 231),some (Value.builtin "ValueError.__new__"),some (Value.bool true)]}),
 (61,{cls:=.type "type",data:=UG   {name:=ZN "TooWide",bases:=[Value.ref 24],     mro :=       [Value.ref 61,Value.ref 24,Value.type "ValueError",Value.type "Exception",Value.type "BaseException",         Value.type "object"],     ns:=60,qualname:=ZN "TooWide"},slots:=#[some (Value.ref 52),none,some (Value.str (ZN "TooWide") 239),some (Value.str (ZN "TooWide") 247),some (Value.builtin "ValueError.__new__"),some (Value.bool true)]}),
 (23,{cls:=.type "dict",data:=.dict #[en P "__module__" 196 (vS "fencefield.errors" 187),en P "__firstlineno__" 200 ((.int 2 199)),en P "__static_attributes__" 201 (.ref 22),en P "__weakref__" 203 (.ref 25),en P "__doc__" 204 (.none)] 3}),
 (60,{cls:=.type "dict",data:=.dict #[en P "__module__" 246 (vS "fencefield.errors" 187),en P "__firstlineno__" 250 ((.int 8 249)),en P "__static_attributes__" 251 (.ref 59),en P "__doc__" 252 (.none)] 2})]
noncomputable def VQ:Zy:={PySem.Challenge.pw_fencefield_k15_whole_least_triangles with main:={PySem.Challenge.pw_fencefield_k15_whole_least_triangles.main with body:=[1,2,3,4,6,7,8,9,10,11,13,14,15,16,17,18,19,20,21,22,24,25,26,27,28,29,30,31,32,33,35,36,37,38,39,40,41,42,43,44,45,46,47,48,49,50,51,52,53].map zt}}
noncomputable abbrev HK:PySem.W.Hook:=PySem.W.kHook KK [3,70,69,77,76,84,83,91,90,98,97,105,104,140,139,147,146,154,153,112,111,133,132,159,158,119,118,126,125,173,172,193,192,188,187,183,182,178,177,205,204,198,197,210,209,166,165,217,216,224,223,238,237,245,244,252,251,257,256,262,261,231,230,269,268,276,275,283,282,290,289,297,296,304,303,311,310,318,317,325,324,332,331,337,336,24,37,49,61,23,60] (fun _=>by kernel_rfl)
noncomputable abbrev zE(w:Zm):Option Shared:=PySem.W.openEnds treeTable PySem.Challenge.rw_fencefield_k15_whole_least_triangles.row.prog w 4484
noncomputable abbrev zS(s:Shared):=PySem.W.openSeen VQ [] (importedModules PySem.Challenge.rw_fencefield_k15_whole_least_triangles.row.prog.main.body) (fun s=>Uz VQ [] s&&VP (Wk PySem.Challenge.rw_fencefield_k15_whole_least_triangles.row.toRowW) s) true s
set_option maxHeartbeats 0 in
theorem CI(w:Zm):(zE w).map (fun s=>(zS s).1)=some (Um VQ []).1:=by kernel_rfl
set_option maxHeartbeats 0 in
theorem CU(w:Zm):(zE w).map (fun s=>(zS s).2)=some (Um VQ []).2:=by kernel_rfl
set_option maxHeartbeats 0 in
theorem CV(w:Zm):(zE w).map (fun s=>V1 HK s)=some (V2 HK w):=by kernel_rfl
theorem left:PySem.W.LeftO PySem.Challenge.rw_fencefield_k15_whole_least_triangles.row.prog VQ [] (fun s=>Uz VQ [] s&&VP (Wk PySem.Challenge.rw_fencefield_k15_whole_least_triangles.row.toRowW) s) (V1 HK) (V2 HK) 4484:=fun w=>by
 obtain⟨s,h,e⟩:=W5.mp (CI w);have c:=CU w;have b:=CV w;unfold zE at h c b;rw[h]at c b ⊢;exact congrArg some (Yy (Yy e (Ze c)) (Ze b))
end FD
end
section
namespace FS
open PySem PySem.SetTable
noncomputable def eU(mask:Nat)(p:Td):Td:=
 if p.more>0 then {p with j:=p.j+1,more:=p.more-1} else
 let (i,perturb):=leap mask p.i p.perturb
 {p with j:=i,more:=runEnd mask i-i,i,perturb}
noncomputable def st0(mask:Nat)(h:Int):Td:=
 let i:=bits h%(mask+1)
 {j:=i,more:=runEnd mask i-i,i,perturb:=bits h,dummy:=none}
noncomputable def pt(mask:Nat)(h:Int):Nat->Td
 |0=>st0 mask h
 |k+1=>eU mask (pt mask h k)
theorem iu(mask i:Nat):runEnd mask i-i<=9:=by unfold runEnd;split<;>lia
theorem uz(mask:Nat)(p:Td):(eU mask p).dummy=p.dummy:=by unfold eU;split<;>rfl
theorem yc(mask:Nat)(h:Int)(k:Nat):(pt mask h k).dummy=none:=by
 induction k with
 |zero=>rfl
 |succ k ih=>show (eU mask (pt mask h k)).dummy=none;rw[uz,ih]
noncomputable def base(mask:Nat)(h:Int):Nat->Nat×Nat
 |0=>(bits h%(mask+1),bits h)
 |r+1=>leap mask (base mask h r).1 (base mask h r).2
structure gy(mask:Nat)(b:Nat×Nat)(p:Td):Prop where
 i:p.i=b.1
 pe:p.perturb=b.2
 m9:p.more<=9
theorem x9(mask:Nat)(h:Int)(b:Nat×Nat):∀(m k:Nat),gy mask b (pt mask h k)->(pt mask h k).more=m->
  ∃d,d<=m+1/\gy mask (leap mask b.1 b.2) (pt mask h (k+d))/\(pt mask h (k+d)).j=(leap mask b.1 b.2).1:=by
 intro m
 induction m with
 |zero=>
  intro k R hm;refine⟨1,Nat.le_refl _,?_,?_⟩
  ·show gy mask _ (eU mask (pt mask h k));unfold eU;rw[if_neg (by lia),R.i,R.pe]
   exact⟨rfl,rfl,iu _ _⟩
  ·show (eU mask (pt mask h k)).j=_;unfold eU;rw[if_neg (by lia),R.i,R.pe]
 |succ m ih=>
  intro k R hm;have R':gy mask b (pt mask h (k+1))/\(pt mask h (k+1)).more=m:=by
   have e:pt mask h (k+1)={pt mask h k with j:=(pt mask h k).j+1,more:=(pt mask h k).more-1}:=by
    show eU mask (pt mask h k)=_;unfold eU;rw[if_pos (by lia)]
   rw[e]
   have:=R.m9
   exact⟨⟨R.i,R.pe,by simp only;lia⟩,by simp only;lia⟩
  obtain⟨d,hd,R2,e2⟩:=ih (k+1) R'.1 R'.2;refine⟨d+1,by lia,?_,?_⟩
  ·rw[show k+(d+1)=k+1+d by lia];exact R2
  ·rw[show k+(d+1)=k+1+d by lia];exact e2
theorem sP(mask:Nat)(h:Int):∀r:Nat,∃k,k<=10*r/\gy mask (base mask h r) (pt mask h k)/\(pt mask h k).j=(base mask h r).1
 |0=>⟨0,Nat.le_refl _,⟨rfl,rfl,iu _ _⟩,rfl⟩
 |r+1=>by
  obtain⟨k,hk,R,_⟩:=sP mask h r;obtain⟨d,hd,R2,e2⟩:=x9 mask h _ _ k R rfl
  have:=R.m9
  exact⟨k+d,by lia,R2,e2⟩
theorem nI(mask:Nat)(h:Int):∀r:Nat,(base mask h r).2=bits h/32^r
 |0=>by show bits h=bits h/32^0;rw[Nat.pow_zero,Nat.div_one]
 |r+1=>by
  show (base mask h r).2/32=_;rw[nI mask h r,Nat.div_div_eq_div_mul,Nat.pow_succ]
theorem Aa(h:Int):bits h<2^64:=by
 unfold bits;have h1:=Int.emod_nonneg h (show (2^64:Int)≠0 by decide)
 have h2:=Int.emod_lt_of_pos h (show (0:Int)<2^64 by decide)
 have:((2:Int)^64)=((2^64:Nat):Int):=by decide
 lia
theorem wz(mask:Nat)(h:Int){r:Nat}(hr:13<=r):(base mask h r).2=0:=by
 rw[nI];have h1:=Aa h;have h2:(32:Nat)^13<=32^r:=Nat.pow_le_pow_right (by decide) hr
 exact Nat.div_eq_of_lt (by have:(2:Nat)^64<32^13:=by decide
                            lia)
noncomputable def lcg(mask:Nat):Nat->Nat->Nat
 |0,i=>i
 |q+1,i=>lcg mask q ((i*5+1)%(mask+1))
theorem lq(mask:Nat)(h:Int):∀(q r:Nat),13<=r->(base mask h (r+q)).1=lcg mask q (base mask h r).1
 |0,r,_=>rfl
 |q+1,r,hr=>by
  rw[show r+(q+1)=(r+1)+q by lia,lq mask h q (r+1) (by lia)]
  show lcg mask q (leap mask (base mask h r).1 (base mask h r).2).1=lcg mask q (((base mask h r).1*5+1)%(mask+1));unfold leap
  have:(base mask h (r+1)).2=0:=wz mask h (by lia)
  have e:(base mask h r).2/32=0:=this;rw[e]
theorem u6:∀i,i<8->∀j,j<8->∃q,q<8/\lcg 7 q i=j:=by decide +kernel
theorem sZ:((Z4 32).all fun i=>(Z4 32).all fun j=>(Z4 32).any fun q=>lcg 31 q i==j)=true:=by decide +kernel
theorem kq(mask:Nat)(h:Int)(r:Nat):(base mask h r).1<mask+1:=by
 cases r with
 |zero=>exact Nat.mod_lt _ (by lia)
 |succ r=>exact Nat.mod_lt _ (by lia)
theorem Cp{mask:Nat}(hm:mask=7\/mask=31)(h:Int){j:Nat}(hj:j<=mask):∃k,k<=10*(mask+13)/\(pt mask h k).j=j:=by
 have hq:∃q,q<=mask/\lcg mask q (base mask h 13).1=j:=by
  rcases hm with e|e
  ·subst e;obtain⟨q,hq,e⟩:=u6 _ (kq 7 h 13) j (by lia)
   exact⟨q,by lia,e⟩
  ·subst e;have c:=sZ;simp only[Y5,YD,Zt,beq_iff_eq]at c;obtain⟨q,hq,e⟩:=c _ (kq 31 h 13) j (by lia)
   exact⟨q,by lia,e⟩
 obtain⟨q,hq,e⟩:=hq;obtain⟨k,hk,_,e2⟩:=sP mask h (13+q);refine⟨k,by lia,?_⟩
 rw[e2,lq mask h q 13 (Nat.le_refl _),e]
noncomputable def iS(xs:Array Nat):Prop:=∀i k,i<k->k<xs.size->xs.getD i 0<xs.getD k 0
theorem xP{xs:Array Nat}(R:iS xs)(j:Nat):∀(fuel lo hi:Nat),lo<=hi->hi<=xs.size->hi-lo<=fuel->(∀i,i<lo->xs.getD i 0<j)->(∀i,hi<=i->i<xs.size->j<=xs.getD i 0)->
  below.go xs j fuel lo hi<=xs.size/\(∀i,i<below.go xs j fuel lo hi->xs.getD i 0<j)/\(∀i,below.go xs j fuel lo hi<=i->i<xs.size->j<=xs.getD i 0):=by
 intro fuel
 induction fuel with
 |zero=>
  intro lo hi h1 h2 h3 h4 h5
  have:lo=hi:=by lia
  subst this;exact⟨h2,h4,h5⟩
 |succ f ih=>
  intro lo hi h1 h2 h3 h4 h5;unfold below.go;by_cases c:lo<hi
  ·rw[if_pos c];have hm:(lo+hi)/2<xs.size:=by lia
   have eD:∀d,xs.getD ((lo+hi)/2) d=xs.getD ((lo+hi)/2) 0:=by
    intro d;simp only[UH,dif_pos hm]
   simp only[eD];by_cases c2:xs.getD ((lo+hi)/2) 0<j
   ·rw[if_pos c2];refine ih _ _ (by lia) h2 (by lia) (fun i hi'=>?_) h5
    by_cases e:i=(lo+hi)/2
    ·subst e;exact c2
    ·exact Nat.lt_trans (R i _ (by lia) hm) c2
   ·rw[if_neg c2];refine ih _ _ (by lia) (by lia) (by lia) h4 (fun i hi' hs=>?_)
    by_cases e:i=(lo+hi)/2
    ·subst e;lia
    ·have:=R _ i (show (lo+hi)/2<i by lia) hs
     lia
  ·rw[if_neg c]
   have:lo=hi:=by lia
   subst this;exact⟨h2,h4,h5⟩
theorem gS{xs:Array Nat}(R:iS xs)(j:Nat):below xs j<=xs.size/\(∀i,i<below xs j->xs.getD i 0<j)/\(∀i,below xs j<=i->i<xs.size->j<=xs.getD i 0):=
 xP R j xs.size 0 xs.size (Nat.zero_le _) (Nat.le_refl _) (by lia) (fun _ h=>absurd h (by lia)) (fun i h1 h2=>by lia)
theorem sM{xs:Array Nat}{i:Nat}(h:i<xs.size):xs[i]?=some (xs.getD i 0):=by
 rw[ZX h];simp only[UH,dif_pos h];rfl
theorem nH{t:Yh}(R:iS t.place){i j:Nat}(hi:i<t.place.size)(e:t.place.getD i 0=j):t.slot j=.live i:=by
 have b:=gS R j;have hb:below t.place j=i:=by
  rcases Nat.lt_trichotomy (below t.place j) i with c|c|c
  ·have:=b.2.2 (below t.place j) (Nat.le_refl _) (by lia)
   have:=R _ i c hi
   lia
  ·exact c
  ·have:=b.2.1 i c
   lia
 unfold Tk;simp only[hb,sM hi,e];simp
theorem uk{t:Yh}(R:iS t.place)(D:t.dummies=#[]){j:Nat}(h:∀i,i<t.place.size->t.place.getD i 0≠j):t.slot j=.empty:=by
 have b:=gS R j;unfold Tk;have h1:(t.place[below t.place j]? == some j)=false:=by
  by_cases c:below t.place j<t.place.size
  ·rw[sM c];exact YW.mpr (fun e=>h _ c (Ze e))
  ·rw[Xk (by lia)];rfl
 have h2:has t.dummies j=false:=by rw[D];rfl
 simp only[h1,h2,Zw,ZK]
noncomputable def Occ(t:Yh)(j:Nat):Prop:=∃i,i<t.place.size/\t.place.getD i 0=j
structure TOk(t:Yh)(hs:Nat->Int):Prop where
 dm:t.dummies=#[]
 ri:iS t.place
 le:∀i,i<t.place.size->t.place.getD i 0<=t.mask
 mm:t.mask=7\/t.mask=31
 sz:t.place.size<=t.mask
 rc:∀i,i<t.place.size->∃k,(pt t.mask (hs i) k).j=t.place.getD i 0/\∀k',k'<k->Occ t (pt t.mask (hs i) k').j
theorem B9:∀(m:Nat) (xs:Array Nat),iS xs->xs.size<=m->∃j,j<=m/\∀i,i<xs.size->xs.getD i 0≠j:=by
 intro m xs R hm;have key:∀n,n<=xs.size->(∀i,i<n->xs.getD i 0=i)\/∃j,j<n/\∀i,i<xs.size->xs.getD i 0≠j:=by
  intro n
  induction n with
  |zero=>intro _;exact .inl (fun i h=>absurd h (by lia))
  |succ n ih=>
   intro hn;rcases ih (by lia) with h|⟨j,h1,h2⟩
   ·by_cases c:xs.getD n 0=n
    ·left;intro i hi;by_cases e:i=n
     ·subst e;exact c
     ·exact h i (by lia)
    ·right;refine⟨n,by lia,fun i hi e=>?_⟩
     rcases Nat.lt_trichotomy i n with d|d|d
     ·have:=h i d;lia
     ·subst d;exact c e
     ·have C_:=R n i d hi;have E7:n<=xs.getD n 0:=by
       by_cases z:n=0
       ·lia
       ·have:=R (n-1) n (by lia) (by lia)
        have:=h (n-1) (by lia)
        lia
      lia
   ·exact .inr ⟨j,by lia,h2⟩
 rcases key xs.size (Nat.le_refl _) with h|⟨j,h1,h2⟩
 ·exact⟨xs.size,hm,fun i hi e=>by have:=h i hi;lia⟩
 ·exact⟨j,by lia,h2⟩
theorem TOk.free{t:Yh}{hs:Nat->Int}(ok:TOk t hs)(h:Int):∃k,k<=10*(t.mask+13)/\¬Occ t (pt t.mask h k).j:=by
 obtain⟨j,hj,hn⟩:=B9 t.mask t.place ok.ri ok.sz;obtain⟨k,hk,e⟩:=Cp ok.mm h hj;exact⟨k,hk,fun ⟨i,hi,q⟩=>hn i hi (q.trans e)⟩
inductive Meets(t:Yh)(hs:Nat->Int)(h:Int)(k:Nat):Met->Prop
 |free (k2:Nat):k<=k2->¬Occ t (pt t.mask h k2).j->(∀k',k<=k'->k'<k2->∃i,i<t.place.size/\t.place.getD i 0=(pt t.mask h k').j/\hs i≠h)->Meets t hs h k (.empty (pt t.mask h k2).j none)
 |cand (k2 i:Nat):k<=k2->i<t.place.size->t.place.getD i 0=(pt t.mask h k2).j->hs i=h->(∀k',k<=k'->k'<k2->∃i,i<t.place.size/\t.place.getD i 0=(pt t.mask h k').j/\hs i≠h)->
  Meets t hs h k (.candidate (pt t.mask h k2).j i (pt t.mask h (k2+1)))
theorem xY{t:Yh}{hs DS:Nat->Int}(ok:TOk t DS)(h:Int)(K:Nat)(hK:¬Occ t (pt t.mask h K).j):∀(fuel k:Nat),k<=K->K-k<fuel->∃m,probe.go t hs h fuel (pt t.mask h k)=some m/\Meets t hs h k m:=by
 intro fuel
 induction fuel with
 |zero=>intro k _ h2;lia
 |succ f ih=>
  intro k hk hf;by_cases c:Occ t (pt t.mask h k).j
  ·obtain⟨i,hi,e⟩:=id c;have hs':=nH ok.ri hi e;by_cases c2:hs i=h
   ·refine⟨.candidate (pt t.mask h k).j i (pt t.mask h (k+1)),?_,.cand k i (Nat.le_refl _) hi e c2 (fun k' h1 h2=>absurd h2 (by lia))⟩
    unfold probe.go;simp only[hs',c2,beq_self_eq_true,X6]
    rfl
   ·have hkK:k≠K:=fun e=>hK (e ▸ c);obtain⟨m,hm,M⟩:=ih (k+1) (by lia) (by lia)
    refine⟨m,?_,?_⟩
    ·unfold probe.go
     have:(hs i==h)=false:=by simpa using c2
     simp only[hs',this,Zw,ZK];exact hm
    ·have one:∀k2,k+1<=k2->(∀k',k+1<=k'->k'<k2->∃i,i<t.place.size/\t.place.getD i 0=(pt t.mask h k').j/\hs i≠h)->
       ∀k',k<=k'->k'<k2->∃i,i<t.place.size/\t.place.getD i 0=(pt t.mask h k').j/\hs i≠h:=by
      intro k2 _ q k' h1 h2;by_cases e':k'=k
      ·subst e';exact⟨i,hi,e,c2⟩
      ·exact q k' (by lia) h2
     cases M with
     |free k2 h1 h2 h3=>exact .free k2 (by lia) h2 (one k2 h1 h3)
     |cand k2 i' h1 h2 h3 h4 h5=>exact .cand k2 i' (by lia) h2 h3 h4 (one k2 h1 h5)
  ·refine⟨.empty (pt t.mask h k).j none,?_,.free k (Nat.le_refl _) c (fun k' h1 h2=>absurd h2 (by lia))⟩
   have hs':=uk ok.ri ok.dm (j:=(pt t.mask h k).j) (fun i hi e=>c ⟨i,hi,e⟩);unfold probe.go;simp only[hs',yc]
theorem rk{t:Yh}{hs DS:Nat->Int}(ok:TOk t DS)(h:Int)(K:Nat)(hK:¬Occ t (pt t.mask h K).j)(hb:K<=10*(t.mask+13)){k:Nat}(hk:k<=K):∃m,t.probe hs h (pt t.mask h k)=some m/\Meets t hs h k m:=
 xY ok h K hK _ k hk (by unfold turns;lia)
theorem fv{α:Type}(xs:Array α)(p:Nat)(x:α)(hp:p<=xs.size):(insertAt xs p x).size=xs.size+1:=by
 unfold insertAt;simp;lia
theorem db{α:Type}(xs:Array α)(p:Nat)(x:α)(hp:p<=xs.size)(i:Nat):(insertAt xs p x)[i]?=if i<p then xs[i]? else if i=p then some x else xs[i-1]?:=by
 unfold insertAt;rw[Array.getElem?_append];have hs:((xs.extract 0 p).push x).size=p+1:=by simp;lia
 rw[hs];by_cases c:i<p+1
 ·rw[if_pos c,Wa];have DO:(xs.extract 0 p).size=p:=by simp;lia
  rw[DO];by_cases c2:i=p
  ·subst c2;simp
  ·rw[if_neg c2,if_pos (by lia),Vx]
   rw[if_pos (by lia)];simp
 ·rw[if_neg c,if_neg (by lia),if_neg (by lia),Vx]
  by_cases c3:i-1<xs.size
  ·rw[if_pos (by lia)];congr 1;lia
  ·rw[if_neg (by lia),Xk (by lia)]
theorem ou(xs:Array Nat)(p x:Nat)(hp:p<=xs.size)(i:Nat):(insertAt xs p x).getD i 0=if i<p then xs.getD i 0 else if i=p then x else xs.getD (i-1) 0:=by
 have:=db xs p x hp i
 rw[ZC,this]
 (repeat' split)<;>simp[ZC]
noncomputable def tL(hs:Nat->Int)(p:Nat)(h:Int)(i:Nat):Int:=if i<p then hs i else if i=p then h else hs (i-1)
theorem nW{t:Yh}{hs:Nat->Int}(ok:TOk t hs)(j:Nat):(t.put j).1={t with place:=insertAt t.place (below t.place j) j}:=by
 unfold SetTable.put
 have:has t.dummies j=false:=by rw[ok.dm];rfl
 simp only[this,Zw,ZK]
theorem TOk.put{t:Yh}{hs:Nat->Int}(ok:TOk t hs){h:Int}{k:Nat}(hf:¬Occ t (pt t.mask h k).j)(hp:∀k',k'<k->Occ t (pt t.mask h k').j)(hj:(pt t.mask h k).j<=t.mask)(hsz:t.place.size+1<=t.mask):
  TOk (t.put (pt t.mask h k).j).1 (tL hs (below t.place (pt t.mask h k).j) h):=by
 have e:=nW ok (pt t.mask h k).j;have b:=gS ok.ri (pt t.mask h k).j;have mask':(t.put (pt t.mask h k).j).1.mask=t.mask:=by rw[e]
 have place':(t.put (pt t.mask h k).j).1.place=insertAt t.place (below t.place (pt t.mask h k).j) (pt t.mask h k).j:=by rw[e]
 generalize hj':(pt t.mask h k).j=j at *
 have sz':=fv t.place (below t.place j) j b.1;have gd:=ou t.place (below t.place j) j b.1;have occ':∀x,Occ t x->Occ (t.put j).1 x:=by
  rintro x ⟨i,hi,q⟩;unfold Occ;rw[place'];by_cases c:i<below t.place j
  ·exact⟨i,by lia,by rw[gd,if_pos c];exact q⟩
  ·exact⟨i+1,by lia,by rw[gd,if_neg (by lia),if_neg (by lia)];exact q⟩
 refine⟨by rw[e];exact ok.dm,?_,?_,by rw[mask'];exact ok.mm,by rw[mask',place',sz'];exact hsz,?_⟩
 ·rw[place'];intro i k2 h1 h2;rw[sz']at h2;rw[gd,gd];by_cases c1:k2<below t.place j
  ·rw[if_pos (by lia),if_pos c1];exact ok.ri i k2 h1 (by lia)
  ·by_cases c2:k2=below t.place j
   ·rw[if_pos (by lia),if_neg (by lia),if_pos c2];exact b.2.1 i (by lia)
   ·rw[if_neg c1,if_neg c2];have E7:=b.2.2 (k2-1) (by lia) (by lia)
    by_cases c3:i<below t.place j
    ·rw[if_pos c3]
     have:=b.2.1 i c3
     lia
    ·by_cases c4:i=below t.place j
     ·rw[if_neg c3,if_pos c4]
      have:t.place.getD (k2-1) 0≠j:=fun q=>hf ⟨k2-1,by lia,q⟩
      lia
     ·rw[if_neg c3,if_neg c4];exact ok.ri (i-1) (k2-1) (by lia) (by lia)
 ·intro i hi;rw[place',sz']at hi;rw[place',gd,mask']
  (repeat' split)
  ·exact ok.le i (by lia)
  ·exact hj
  ·exact ok.le (i-1) (by lia)
 ·intro i hi;rw[place',sz']at hi;rw[place',gd,mask'];unfold tL;by_cases c1:i<below t.place j
  ·simp only[if_pos c1];obtain⟨k1,q1,q2⟩:=ok.rc i (by lia)
   exact⟨k1,q1,fun k' hk'=>occ' _ (q2 k' hk')⟩
  ·by_cases c2:i=below t.place j
   ·simp only[if_neg c1,if_pos c2];exact⟨k,hj',fun k' hk'=>occ' _ (hp k' hk')⟩
   ·simp only[if_neg c1,if_neg c2];obtain⟨k1,q1,q2⟩:=ok.rc (i-1) (by lia)
    exact⟨k1,q1,fun k' hk'=>occ' _ (q2 k' hk')⟩
theorem oN{mask:Nat}(h:Int)(k:Nat):(pt mask h k).j+(pt mask h k).more<=mask:=by
 have run:∀i,i<mask+1->i+(runEnd mask i-i)<=mask:=by intro i hi;unfold runEnd;split<;>lia
 induction k with
 |zero=>exact run _ (Nat.mod_lt _ (by lia))
 |succ k ih=>
  show (eU mask (pt mask h k)).j+(eU mask (pt mask h k)).more<=mask;unfold eU
  split
  ·simp only;lia
  ·exact run _ (Nat.mod_lt _ (by lia))
theorem wx(f m:Nat)(led:Bool)(hs:Nat->Int):TOk (.fresh f m led) hs:=
 ⟨rfl,fun _ _ _ h=>absurd h (by show ¬_<0;lia),fun _ h=>absurd h (by show ¬_<0;lia),.inl rfl,Nat.zero_le _,fun _ h=>absurd h (by show ¬_<0;lia)⟩
theorem sF(mask:Nat)(h:Int)(b:Nat×Nat){k:Nat}(R:gy mask b (pt mask h k))(hj:(pt mask h k).j=b.1)(hm:(pt mask h k).more=runEnd mask b.1-b.1):∀d,d<=runEnd mask b.1-b.1->
  gy mask b (pt mask h (k+d))/\(pt mask h (k+d)).j=b.1+d/\(pt mask h (k+d)).more=runEnd mask b.1-b.1-d:=by
 intro d
 induction d with
 |zero=>intro _;exact⟨R,hj,by lia⟩
 |succ d ih=>
  intro hd;obtain⟨R',j',m'⟩:=ih (by lia)
  have e:pt mask h (k+(d+1))={pt mask h (k+d) with j:=(pt mask h (k+d)).j+1,more:=(pt mask h (k+d)).more-1}:=by
   show eU mask (pt mask h (k+d))=_;unfold eU;rw[if_pos (by lia)]
  rw[e]
  have:=R'.m9
  exact⟨⟨R'.i,R'.pe,by simp only;lia⟩,by simp only;lia,by simp only;lia⟩
theorem yE(mask:Nat)(h:Int)(b:Nat×Nat){k:Nat}(R:gy mask b (pt mask h k))(hj:(pt mask h k).j=b.1)(hm:(pt mask h k).more=runEnd mask b.1-b.1):
  gy mask (leap mask b.1 b.2) (pt mask h (k+(runEnd mask b.1-b.1)+1))/\(pt mask h (k+(runEnd mask b.1-b.1)+1)).j=(leap mask b.1 b.2).1/\
   (pt mask h (k+(runEnd mask b.1-b.1)+1)).more=runEnd mask (leap mask b.1 b.2).1-(leap mask b.1 b.2).1:=by
 obtain⟨R',j',m'⟩:=sF mask h b R hj hm _ (Nat.le_refl _);have e:pt mask h (k+(runEnd mask b.1-b.1)+1)={pt mask h (k+(runEnd mask b.1-b.1)) with j:=(leap mask b.1 b.2).1,more:=runEnd mask (leap mask b.1 b.2).1-(leap mask b.1 b.2).1,i:=(leap mask b.1 b.2).1,perturb:=(leap mask b.1 b.2).2}:=by
  show eU mask (pt mask h (k+(runEnd mask b.1-b.1)))=_;unfold eU;rw[if_neg (by lia),R'.i,R'.pe]
 rw[e];exact⟨⟨rfl,rfl,iu _ _⟩,rfl,rfl⟩
theorem AS{mask:Nat}(hm:mask=7\/mask=31)(h:Int){j:Nat}(hj:j<=mask):∃r,r<=mask+13/\(base mask h r).1=j:=by
 have hq:∃q,q<=mask/\lcg mask q (base mask h 13).1=j:=by
  rcases hm with e|e
  ·subst e;obtain⟨q,hq,e⟩:=u6 _ (kq 7 h 13) j (by lia)
   exact⟨q,by lia,e⟩
  ·subst e;have c:=sZ;simp only[Y5,YD,Zt,beq_iff_eq]at c;obtain⟨q,hq,e⟩:=c _ (kq 31 h 13) j (by lia)
   exact⟨q,by lia,e⟩
 obtain⟨q,hq,e⟩:=hq;exact⟨13+q,by lia,by rw[lq mask h q 13 (Nat.le_refl _),e]⟩
noncomputable def fA(owner:Array (Option Nat))(j:Nat):Prop:=(owner.getD j (some 0)).isNone=true
theorem uY{mask:Nat}(h:Int)(owner:Array (Option Nat))(R:Nat)(hR:fA owner (base mask h R).1):∀(fuel r k:Nat),r<=R->R-r<fuel->gy mask (base mask h r) (pt mask h k)->(pt mask h k).j=(base mask h r).1->
  (pt mask h k).more=runEnd mask (base mask h r).1-(base mask h r).1->(∀k',k'<k->¬fA owner (pt mask h k').j)->
  ∃k2,layClean.free mask owner fuel (base mask h r).1 (base mask h r).2=some (pt mask h k2).j/\fA owner (pt mask h k2).j/\∀k',k'<k2->¬fA owner (pt mask h k').j:=by
 intro fuel
 induction fuel with
 |zero=>intro r k _ h2;lia
 |succ f ih=>
  intro r k hr hf IR hj hm before;have pos:=sF mask h _ IR hj hm;unfold layClean.free;have hrange:∀d,d<runEnd mask (base mask h r).1+1-(base mask h r).1->d<=runEnd mask (base mask h r).1-(base mask h r).1:=by intro d hd;lia
  cases hfd:(Z4 (runEnd mask (base mask h r).1+1-(base mask h r).1)).find? fun k=>(owner.getD ((base mask h r).1+k) (some 0)).isNone with
  |some d=>
   simp only;have hd:=Zt.mp (Yq hfd);have hp:=Vo hfd;have pd:=pos d (hrange d hd);refine⟨k+d,by rw[pd.2.1],?_,?_⟩
   ·unfold fA;rw[pd.2.1];exact hp
   ·intro k' hk';by_cases c:k'<k
    ·exact before k' c
    ·obtain⟨d',rfl⟩:∃d',k'=k+d':=⟨k'-k,by lia⟩
     have hd':d'<d:=by lia
     have pd':=pos d' (by have:=hrange d hd;lia)
     unfold fA;rw[pd'.2.1];intro q;have z:=(List.find?_range_eq_some.mp hfd).2.2 d' hd'
     revert z
     show (!(owner.getD ((base mask h r).1+d') (some 0)).isNone)=true->False;rw[q];intro z;exact ZR z
  |none=>
   simp only;have hall:=U0.mp hfd;have nr:=yE mask h _ IR hj hm;have hrR:r≠R:=by
    rintro rfl;have E7:(base mask h r).1<=runEnd mask (base mask h r).1:=by unfold runEnd;split<;>lia
    have:=hall 0 (Zt.mpr (by lia))
    unfold fA at hR;rw[Nat.add_zero]at this;exact this hR
   refine ih (r+1) _ (by lia) (by lia) nr.1 nr.2.1 nr.2.2 ?_
   intro k' hk';by_cases c:k'<k
   ·exact before k' c
   ·obtain⟨d',rfl⟩:∃d',k'=k+d':=⟨k'-k,by lia⟩
    have pd':=pos d' (by lia)
    have:=hall d' (Zt.mpr (by unfold runEnd at hk' ⊢;split<;>(rename_i z;(try rw[if_pos z]at hk');(try rw[if_neg z]at hk');lia)))
    unfold fA;rw[pd'.2.1];exact this
noncomputable def eK(owner:Array (Option Nat))(j:Nat):Bool:=(owner.getD j none).isSome
structure Lay(mask:Nat)(hsL:Nat->Int)(owner:Array (Option Nat))(k:Nat):Prop where
 size:owner.size=mask+1
 own:∀j a,owner.getD j none=some a->a<k/\j<=mask
 all:∀a,a<k->∃j,owner.getD j none=some a
 inj:∀j j' a,owner.getD j none=some a->owner.getD j' none=some a->j=j'
 cnt:(Z4 (mask+1)).countP (eK owner)=k
 rc:∀j a,owner.getD j none=some a->∃kk,(pt mask (hsL a) kk).j=j/\∀k',k'<kk->¬fA owner (pt mask (hsL a) k').j
theorem xk{owner:Array (Option Nat)}{j:Nat}(h:j<owner.size)(d d':Option Nat):owner.getD j d=owner.getD j d':=by
 simp only[UH,dif_pos h]
theorem hV{owner:Array (Option Nat)}{j:Nat}(h:j<owner.size):fA owner j↔eK owner j=false:=by
 unfold fA eK;rw[xk h (some 0) none];cases owner.getD j none<;>simp
theorem uN(p q:Nat->Bool)(j:Nat)(hp:p j=false)(hq:q j=true)(ho:∀i,i≠j->p i=q i):∀n,(Z4 n).countP q=(Z4 n).countP p+if j<n then 1 else 0:=by
 intro n
 induction n with
 |zero=>simp
 |succ n ih=>
  rw[Xg,U1,U1,ih,Vh,Vh];by_cases e:n=j
  ·subst e;simp[hp,hq]
  ·rw[ho n e]
   have:(if j<n then 1 else 0)=if j<n+1 then 1 else 0:=by
    by_cases c:j<n
    ·rw[if_pos c,if_pos (show j<n+1 by lia)]
    ·rw[if_neg c,if_neg (show ¬j<n+1 by lia)]
   rw[this];lia
theorem setD{owner:Array (Option Nat)}{j:Nat}(h:j<owner.size)(v:Option Nat)(i:Nat):(owner.setIfInBounds j v).getD i none=if i=j then v else owner.getD i none:=by
 rw[ZC,Array.getElem?_setIfInBounds];by_cases e:i=j
 ·subst e;simp[h]
 ·rw[if_neg e,if_neg (fun z=>e z.symm),ZC]
theorem Lay.step{mask:Nat}{hsL:Nat->Int}{owner:Array (Option Nat)}{k:Nat}(hm:mask=7\/mask=31)(L:Lay mask hsL owner k)(hk:k<=mask):
  ∃j,layClean.free mask owner (turns mask) (bits (hsL k)%(mask+1)) (bits (hsL k))=some j/\Lay mask hsL (owner.setIfInBounds j (some k)) (k+1):=by
 have exF:∃j,j<=mask/\fA owner j:=by
  apply Zz;intro no;have all:∀j∈Z4 (mask+1),eK owner j=true:=by
   intro j hj;have hj':=Zt.mp hj;cases e:eK owner j with
   |true=>rfl
   |false=>exact absurd ⟨j,by lia,(hV (by rw[L.size];lia)).mpr e⟩ no
  have:=List.countP_eq_length.mpr all
  rw[L.cnt,Y2]at this;lia
 obtain⟨j0,hj0,f0⟩:=exF;obtain⟨R,hR,eR⟩:=AS hm (hsL k) hj0;obtain⟨k2,e2,f2,b2⟩:=uY (mask:=mask) (hsL k) owner R (by rw[eR];exact f0) (turns mask) 0 0 (Nat.zero_le _) (by unfold turns;lia) ⟨rfl,rfl,iu _ _⟩ rfl rfl (fun _ h=>absurd h (by lia))
 have hj:(pt mask (hsL k) k2).j<owner.size:=by have:=oN (mask:=mask) (hsL k) k2;rw[L.size];lia
 refine⟨(pt mask (hsL k) k2).j,e2,?_⟩;have fr:=(hV hj).mp f2;have none2:owner.getD (pt mask (hsL k) k2).j none=none:=by
  unfold eK at fr;cases e:owner.getD (pt mask (hsL k) k2).j none with
  |none=>rfl
  |some a=>rw[e]at fr;exact ZR fr
 generalize hj':(pt mask (hsL k) k2).j=j at *
 have sD:=setD hj (some k);have nf:∀i,i<=mask->¬fA owner i->¬fA (owner.setIfInBounds j (some k)) i:=by
  intro i hi h1 h2;have s1:i<owner.size:=by rw[L.size];lia
  have s2:i<(owner.setIfInBounds j (some k)).size:=by rw[WW];exact s1
  have o1:eK owner i=true:=by
   cases e:eK owner i with
   |true=>rfl
   |false=>exact absurd ((hV s1).mpr e) h1
  have o2:=(hV s2).mp h2;unfold eK at o1 o2;rw[sD]at o2;by_cases e:i=j
  ·rw[if_pos e]at o2;exact ZR o2
  ·rw[if_neg e,o1]at o2;exact ZR o2
 have ple:∀h k',(pt mask h k').j<=mask:=fun h k'=>by have:=oN (mask:=mask) h k';lia
 refine⟨by rw[WW];exact L.size,?_,?_,?_,?_,?_⟩
 ·intro i a e;rw[sD]at e;by_cases c:i=j
  ·rw[if_pos c]at e;cases e;exact⟨by lia,by rw[c,<-hj'];exact ple _ _⟩
  ·rw[if_neg c]at e;have:=L.own i a e;exact⟨by lia,this.2⟩
 ·intro a ha;by_cases c:a=k
  ·exact⟨j,by rw[sD,if_pos rfl,c]⟩
  ·obtain⟨i,e⟩:=L.all a (by lia)
   have ne:i≠j:=fun z=>by rw[z,none2]at e;cases e
   exact⟨i,by rw[sD,if_neg ne];exact e⟩
 ·intro i i' a e e';rw[sD]at e e';by_cases c:i=j<;>by_cases c':i'=j
  ·lia
  ·rw[if_pos c]at e;rw[if_neg c']at e';cases e;have:=(L.own i' k e').1;lia
  ·rw[if_neg c]at e;rw[if_pos c']at e';cases e';have:=(L.own i k e).1;lia
  ·rw[if_neg c]at e;rw[if_neg c']at e';exact L.inj i i' a e e'
 ·rw[uN (eK owner) (eK (owner.setIfInBounds j (some k))) j fr (by unfold eK;rw[sD,if_pos rfl];rfl) (fun i hi=>by unfold eK;rw[sD,if_neg hi]) (mask+1),L.cnt]
  have:j<mask+1:=by have:=L.size;lia
  rw[if_pos this]
 ·intro i a e;rw[sD]at e;by_cases c:i=j
  ·rw[if_pos c]at e;cases e;exact⟨k2,by rw[hj',c],fun k' h'=>nf _ (ple _ _) (b2 k' h')⟩
  ·rw[if_neg c]at e;obtain⟨kk,q1,q2⟩:=L.rc i a e;exact⟨kk,q1,fun k' h'=>nf _ (ple _ _) (q2 k' h')⟩
noncomputable def sR(mask:Nat)(acc:Option (Array (Option Nat)×Nat))(h:Int):Option (Array (Option Nat)×Nat):=do
 let (owner,k) <-acc
 let j <-layClean.free mask owner (turns mask) (bits h%(mask+1)) (bits h)
 pure (owner.setIfInBounds j (some k),k+1)
theorem sh{mask:Nat}{hsL:Nat->Int}(hm:mask=7\/mask=31):∀(l:List Int) (k:Nat) (owner:Array (Option Nat)),(∀(i:Nat) h,l[i]?=some h->hsL (k+i)=h)->Lay mask hsL owner k->k+l.length<=mask->
  ∃owner',l.foldl (sR mask) (some (owner,k))=some (owner',k+l.length)/\Lay mask hsL owner' (k+l.length)
 | [],k,owner,_,L,_=>⟨owner,rfl,L⟩
 |h::l,k,owner,e,L,hk=>by
  rw[Zd]at hk;obtain⟨j,e1,L1⟩:=L.step hm (by lia)
  have eh:hsL k=h:=e 0 h rfl;obtain⟨o2,e2,L2⟩:=sh hm l (k+1) _ (fun i h' q=>by rw[<-e (i+1) h' q];congr 1;lia) L1 (by lia)
  refine⟨o2,?_,by rw[Zd,show k+(l.length+1)=k+1+l.length by lia];exact L2⟩
  rw[List.foldl_cons,Zd,show k+(l.length+1)=k+1+l.length by lia,<-e2]
  congr 1;show (layClean.free mask owner (turns mask) (bits h%(mask+1)) (bits h)).bind _=_;rw[<-eh,e1]
  rfl
theorem xl(mask:Nat)(hsL:Nat->Int):Lay mask hsL (Vn (mask+1) none) 0:=by
 have g:∀j,(Vn (mask+1) (none:Option Nat)).getD j none=none:=by
  intro j;rw[ZC,Array.getElem?_replicate]
  split<;>rfl
 refine⟨Array.size_replicate,fun j a e=>?_,fun a h=>absurd h (by lia),fun j j' a e=>?_,?_,fun j a e=>?_⟩
 ·rw[g]at e;cases e
 ·rw[g]at e;cases e
 ·rw[List.countP_eq_zero.mpr];intro j _;unfold eK;rw[g];simp
 ·rw[g]at e;cases e
theorem rC{mask:Nat}(hm:mask=7\/mask=31)(hashes:Array Int)(hn:hashes.size<=mask):∃owner,layClean mask hashes=some owner/\Lay mask (fun a=>hashes.getD a 0) owner hashes.size:=by
 obtain⟨o,e,L⟩:=sh (hsL:=fun a=>hashes.getD a 0) hm hashes.toList 0 _ (fun i h q=>by
  rw[Nat.zero_add,ZC];rw[Yx]at q;rw[q];rfl) (xl mask _) (by rw[ZY];lia)
 rw[ZY,Nat.zero_add]at e L;refine⟨o,?_,L⟩;unfold layClean;rw[<-Array.foldl_toList];show Option.map _ (hashes.toList.foldl (sR mask) (some (Vn (mask+1) none,0)))=_;rw[e]
 rfl
noncomputable def aX(mask:Nat)(owner:Array (Option Nat)):List (Nat×Nat):=(Z4 (mask+1)).filterMap fun j=>(owner.getD j none).map (j,·)
theorem kI{mask:Nat}{owner:Array (Option Nat)}{j a:Nat}:(j,a)∈aX mask owner↔j<mask+1/\owner.getD j none=some a:=by
 unfold aX;rw[Xm];constructor
 ·rintro⟨j',hj',e⟩;cases q:owner.getD j' none with
  |none=>rw[q]at e;cases e
  |some a'=>
   rw[q]at e;have e':(j',a')=(j,a):=Ze e;cases e';exact⟨Zt.mp hj',q⟩
 ·rintro⟨h1,h2⟩;exact⟨j,Zt.mpr h1,by rw[h2];rfl⟩
theorem rH(mask:Nat)(owner:Array (Option Nat)):(aX mask owner).Pairwise fun x y=>x.1<y.1:=by
 unfold aX;rw[List.pairwise_filterMap];refine List.Pairwise.imp ?_ (List.pairwise_lt_range (n:=mask+1));intro a b hab x hx y hy;cases q:owner.getD a none with
 |none=>rw[q]at hx;cases hx
 |some _=>
  cases q':owner.getD b none with
  |none=>rw[q']at hy;cases hy
  |some _=>
   rw[q]at hx;rw[q']at hy;have h1:=Ze hx;have h2:=Ze hy;rw[<-h1,<-h2];exact hab
theorem ro(mask:Nat)(owner:Array (Option Nat)):(aX mask owner).length=(Z4 (mask+1)).countP (eK owner):=by
 unfold aX;generalize Z4 (mask+1)=l
 induction l with
 |nil=>rfl
 |cons j l ih=>
  rw[Xr,List.countP_cons];unfold eK at *
  cases q:owner.getD j none with
  |none=>simp only[Option.map_none,Option.isSome_none,Zw,ZK];exact ih
  |some a=>simp only[Option.map_some,Option.isSome_some,X6,Zd];rw[ih]
theorem ww{t:Yh}{hashes:Array Int}{wanted:Nat}(hw:sizeAbove wanted-1=31)(hn:hashes.size<=31):
  ∃t' order,t.relaid hashes wanted=some (t',order)/\t'.place.size=hashes.size/\order.size=hashes.size/\t'.mask=31/\t'.led=t.led/\t'.plain=t.plain/\
   (∀i,i<hashes.size->order.getD i 0<hashes.size)/\(∀a,a<hashes.size->∃i,i<hashes.size/\order.getD i 0=a)/\(∀i k,i<hashes.size->k<hashes.size->order.getD i 0=order.getD k 0->i=k)/\TOk t' (fun i=>hashes.getD (order.getD i 0) 0):=by
 obtain⟨owner,e,L⟩:=rC (mask:=31) (.inr rfl) hashes hn;have hlen:(aX 31 owner).length=hashes.size:=by rw[ro,L.cnt]
 have hso:=List.pairwise_iff_getElem.mp (rH 31 owner);have el:∀i (hi:i<hashes.size),((aX 31 owner)[i]'(by lia)).1<32/\owner.getD ((aX 31 owner)[i]'(by lia)).1 none=some ((aX 31 owner)[i]'(by lia)).2:=by
  intro i hi;exact kI.mp (XN (by lia))
 have gp:∀i (hi:i<hashes.size),(((aX 31 owner).map (·.1)).toArray).getD i 0=((aX 31 owner)[i]'(by lia)).1:=by
  intro i hi;rw[ZC,Yw,Zj,Z3 (by lia)];rfl
 have go:∀i (hi:i<hashes.size),(((aX 31 owner).map (·.2)).toArray).getD i 0=((aX 31 owner)[i]'(by lia)).2:=by
  intro i hi;rw[ZC,Yw,Zj,Z3 (by lia)];rfl
 have inj:∀i k (hi:i<hashes.size) (hk:k<hashes.size),((aX 31 owner)[i]'(by lia)).2=((aX 31 owner)[k]'(by lia)).2->i=k:=by
  intro i k hi hk q;have e1:=(el i hi).2;have e2:=(el k hk).2;rw[q]at e1;have same:=L.inj _ _ _ e1 e2;rcases Nat.lt_trichotomy i k with c|c|c
  ·have:=hso i k (by lia) (by lia) c;lia
  ·exact c
  ·have:=hso k i (by lia) (by lia) c;lia
 refine⟨{mask:=31,place:=((aX 31 owner).map (·.1)).toArray,dummies:=#[],finger:=t.finger,led:=t.led,moves:=t.movedTo 31,plain:=t.plain},((aX 31 owner).map (·.2)).toArray,?_,?_,?_,rfl,rfl,rfl,?_,?_,?_,?_⟩
 ·unfold SetTable.relaid laid;rw[hw,e]
  rfl
 ·simp[hlen]
 ·simp[hlen]
 ·intro i hi;rw[go i hi];exact (L.own _ _ (el i hi).2).1
 ·intro a ha;obtain⟨j,hj⟩:=L.all a ha;have hm:(j,a)∈aX 31 owner:=kI.mpr ⟨by have:=(L.own j a hj).2;lia,hj⟩
  obtain⟨i,hi,q⟩:=Yv hm;exact⟨i,by lia,by rw[go i (by lia),q]⟩
 ·intro i k hi hk q;rw[go i hi,go k hk]at q;exact inj i k hi hk q
 ·have psz:(((aX 31 owner).map (·.1)).toArray).size=hashes.size:=by simp[hlen]
  have occ:∀j,j<=31->¬fA owner j->∃i,i<hashes.size/\(((aX 31 owner).map (·.1)).toArray).getD i 0=j:=by
   intro j hj nf;have s1:j<owner.size:=by rw[L.size];lia
   cases q:owner.getD j none with
   |none=>exact absurd ((hV s1).mpr (by unfold eK;rw[q];rfl)) nf
   |some a=>
    obtain⟨i,hi,q'⟩:=Yv (kI.mpr ⟨by lia,q⟩:(j,a)∈aX 31 owner)
    exact⟨i,by lia,by rw[gp i (by lia),q']⟩
  refine⟨rfl,?_,?_,.inr rfl,?_,?_⟩
  ·intro i k h1 h2;have h2':k<hashes.size:=by rw[<-psz];exact h2
   show (((aX 31 owner).map (·.1)).toArray).getD i 0<(((aX 31 owner).map (·.1)).toArray).getD k 0;rw[gp i (by lia),gp k h2']
   exact hso i k (by lia) (by lia) h1
  ·intro i hi;have hi':i<hashes.size:=by rw[<-psz];exact hi
   show (((aX 31 owner).map (·.1)).toArray).getD i 0<=31;rw[gp i hi']
   have:=(el i hi').1
   lia
  ·show (((aX 31 owner).map (·.1)).toArray).size<=31;rw[psz];exact hn
  ·intro i hi;have hi':i<hashes.size:=by rw[<-psz];exact hi
   obtain⟨kk,q1,q2⟩:=L.rc _ _ (el i hi').2;refine⟨kk,?_,?_⟩
   ·show (pt 31 (hashes.getD ((((aX 31 owner).map (·.2)).toArray).getD i 0) 0) kk).j=(((aX 31 owner).map (·.1)).toArray).getD i 0;rw[go i hi',gp i hi'];exact q1
   ·intro k' hk'
    have:=q2 k' hk'
    unfold Occ;show ∃i',i'<(((aX 31 owner).map (·.1)).toArray).size/\(((aX 31 owner).map (·.1)).toArray).getD i' 0=(pt 31 (hashes.getD ((((aX 31 owner).map (·.2)).toArray).getD i 0) 0) k').j;rw[psz,go i hi'];exact occ _ (by have:=oN (mask:=31) (hashes.getD ((aX 31 owner)[i]'(by lia)).2 0) k';lia) this
end FS
end
section
namespace FS
open PySem PySem.SetTable
section
variable{prog:Zy}{w:Zm}{A:ZT}{E:Value->Shared->Prop}{s:Shared}
theorem kG{ks:List Int}{vs:List Value}(h:ItemsAre (YE prog w) ks vs):∀v∈vs,∃i t,v=.int i t:=by
 induction h with
 |nil=>intro v hv;simp at hv
 | @cons k v' ks vs h1 _ ih=>
  intro v hv;rcases Zx.mp hv with rfl|hv
  ·obtain⟨t,e⟩:=Value.isInt_shape (k:=k) (v:=v) h1;exact⟨k,t,e⟩
  ·exact ih v hv
theorem iM{ks:List Int}{a:Addr}{Q:Bool->Shared->Prop}(hk:Y0 (YE prog w) s.heap ks a)(h:Q false s):Zv (model prog w) A (ofAClassStatement 8 (.ref a)) Q E s:=by
 have hT:=hk.typeIs;obtain⟨o,items,n,ho,_,hd,hi⟩:=hk;unfold ofAClassStatement;refine Z0 (Uy hT ?_);show Zv _ _ ((if ("tuple"=="tuple")=true then pure true else isSubtype (.type "tuple") (.type "tuple"))>>=_) _ _ s
 rw[if_pos (by decide)]
 refine Z0 (Z6 ?_);simp only[Yk,Zw,ZK];refine Z0 (X4 ho hd ?_);simp only;refine Z0 ?_;show Zv _ _ (forIn items _ _) _ _ s;rw[<-YM];refine Wt _ (fun rest r s'=>r.1=none/\s'=s/\∀v∈rest,∃i t,v=Value.int i t) _ ?_ ?_ _ _ ⟨rfl,rfl,kG hi⟩
 ·rintro v rest r s' ⟨hr,rfl,hall⟩;obtain⟨i,t,rfl⟩:=hall v Zq;have e:ofAClassStatement 7 (.int i t)=pure false:=by unfold ofAClassStatement;rfl
  refine Z0 (Ui e ?_);simp only[Zw,ZK];exact Z6 ⟨rfl,rfl,fun u hu'=>hall u (Z8 _ hu')⟩
 ·rintro⟨r1,r2⟩ s' ⟨hr,rfl,_⟩;simp only at hr;subst hr;exact Z6 h
theorem rG{ks:List Int}{a:Addr}{stored:List Value}{Q:Bool->Shared->Prop}(hk:Y0 (YE prog w) s.heap ks a)
  (CZ:∀y∈stored,∃b ks',y=.ref b/\Y0 (YE prog w) s.heap ks' b)(h:Q false s):Zv (model prog w) A (searchCouldBeSeen (.ref a) stored) Q E s:=by
 unfold searchCouldBeSeen;refine Z0 ?_;refine Wt _ (fun rest r s'=>r.1=none/\s'=s/\∀y∈rest,∃b ks',y=.ref b/\Y0 (YE prog w) s.heap ks' b) _ ?_ ?_ _ _ ⟨rfl,rfl,CZ⟩
 ·rintro v rest r s' ⟨hr,rfl,hall⟩;obtain⟨b,ks',rfl,hb⟩:=hall v Zq;have hall':∀y∈rest,∃b ks',y=Value.ref b/\Y0 (YE prog w) s'.heap ks' b:=fun u hu'=>hall u (Z8 _ hu');dsimp only
  split
  ·exact Z6 ⟨rfl,rfl,hall'⟩
  ·refine Z0 (Vg hk ?_);simp only[Yk,Zw,ZK];refine Z0 (Vg hb ?_);simp only[Yk,Zw,ZK];refine Z0 (iM hk ?_);simp only[Zw,ZK];refine Z0 (iM hb ?_);simp only[Zw,ZK];exact Z6 ⟨rfl,rfl,hall'⟩
 ·rintro⟨r1,r2⟩ s' ⟨hr,rfl,_⟩;simp only at hr;subst hr;exact Z6 h
theorem kC{ks:List Int}{a:Addr}{Q:Bool->Shared->Prop}(hk:Y0 (YE prog w) s.heap ks a)(h:Q true s):Zv (model prog w) A (hashByValue 8 (.ref a)) Q E s:=by
 have hT:=hk.typeIs;obtain⟨o,items,n,ho,_,hd,hi⟩:=hk;unfold hashByValue;refine Z0 (YI hT F.slot_tuple_hash.lookup ?_);refine Z0 (X4 ho hd ?_);refine Z0 ?_;show Zv _ _ (forIn items _ _) _ _ s;rw[<-YM];refine Wt _ (fun rest r s'=>r.1=none/\s'=s/\∀v∈rest,∃i t,v=Value.int i t) _ ?_ ?_ _ _ ⟨rfl,rfl,kG hi⟩
 ·rintro v rest r s' ⟨hr,rfl,hall⟩;obtain⟨i,t,rfl⟩:=hall v Zq;have e:hashByValue 7 (.int i t)=pure true:=by unfold hashByValue;rfl
  refine Z0 (Ui e ?_);simp only[Yk,Zw,ZK];exact Z6 ⟨rfl,rfl,fun u hu'=>hall u (Z8 _ hu')⟩
 ·rintro⟨r1,r2⟩ s' ⟨hr,rfl,_⟩;simp only at hr;subst hr;exact Z6 h
noncomputable abbrev aL(prog:Zy)(w:Zm)(k:List Int):Int:=tupleKeyHash (YE prog w) k
noncomputable def dA(es:Array (Int×Value))(i:Nat):Int:=(es[i]?.map (·.1)).getD 0
noncomputable def Ents(prog:Zy)(w:Zm)(h:ZE)(es:Array (Int×Value)):Prop:=∀(i:Nat) (e:Int×Value),es[i]?=some e->∃(k:List Int) (r:Addr),e=(aL prog w k,Value.ref r)/\Y0 (YE prog w) h k r
noncomputable def gR(prog:Zy)(w:Zm)(h:ZE)(es:Array (Int×Value))(k:List Int):Prop:=∃(i:Nat) (r:Addr),es[i]?=some (aL prog w k,.ref r)/\Y0 (YE prog w) h k r
structure gQ(prog:Zy)(w:Zm)(h:ZE)(a:Addr)(o:Obj)(es:Array (Int×Value))(ep:Nat)(t:Yh):Prop where
 ho:h.get? a=some o
 ex:o.ExactSet
 hd:o.data=.set es ep t
 sz:t.place.size=es.size
 ok:TOk t (dA es)
 en:Ents prog w h es
theorem gQ.fits{h:ZE}{a:Addr}{o:Obj}{es:Array (Int×Value)}{ep:Nat}{t:Yh}(T:gQ prog w h a o es ep t):t.fits es.size=true:=by
 unfold SetTable.fits Tj
 have:=T.ok.sz
 rw[T.ok.dm,Zc,beq_iff_eq,decide_eq_true_eq];exact⟨T.sz,by simpa using this⟩
inductive tT(prog:Zy)(w:Zm)(h:ZE)(es:Array (Int×Value))(t:Yh)(k:List Int):SetFound->Prop
 |there (x:Option Nat):gR prog w h es k->tT prog w h es t k (.there x)
 |free (n:Nat):¬gR prog w h es k->¬Occ t (pt t.mask (aL prog w k) n).j->(∀n',n'<n->Occ t (pt t.mask (aL prog w k) n').j)->tT prog w h es t k (.free (pt t.mask (aL prog w k) n).j false)
theorem Bg{α:Type}{b:Bool}{m:Sem Bool}{U T:Sem α}{Q:α->Shared->Prop}(hm:∀Q':Bool->Shared->Prop,Q' false s->Zv (model prog w) A m Q' E s)(hT:Zv (model prog w) A T Q E s):
  Zv (model prog w) A (if (!b)=true then (m>>=fun c=>if c=true then U else T) else T) Q E s:=by
 cases b with
 |true=>simpa using hT
 |false=>
  simp only[W6,X6];refine Z0 (hm _ ?_);simp only[Zw,ZK];exact hT
theorem wC{a r:Addr}{k:List Int}{o:Obj}{es:Array (Int×Value)}{ep:Nat}{t:Yh}(T:gQ prog w s.heap a o es ep t)(hk:Y0 (YE prog w) s.heap k r)(hu:A.units<cLine)
  {Q:SetFound->Shared->Prop}(hQ:∀f,tT prog w s.heap es t k f->Q f s)(K:Nat)(hK:¬Occ t (pt t.mask (aL prog w k) K).j)(DT:K<=10*(t.mask+13)):
  ∀(fuel n:Nat) (Dm:Option Td),K-n<fuel->n<=K->Dm.getD (t.probeStart (aL prog w k))=pt t.mask (aL prog w k) n->
   (∀n',n'<n->∃i,i<t.place.size/\t.place.getD i 0=(pt t.mask (aL prog w k) n').j/\∀rr,es[i]?=some (aL prog w k,.ref rr)->¬Y0 (YE prog w) s.heap k rr)->
   Zv (model prog w) A (setSearchFrom a (.ref r) (aL prog w k) true fuel Dm) Q E s:=by
 intro fuel
 induction fuel with
 |zero=>intro n Dm h _ _ _;lia
 |succ f ih=>
  intro n Dm hf hn CZ before;unfold setSearchFrom;refine Z0 (XD T.ho T.hd T.fits ?_);have gw:t.gaveWay=false:=by
   unfold SetTable.gaveWay;rcases T.ok.mm with e|e<;>rw[e]<;>rfl
  simp only[gw,Zw,ZK,CZ];obtain⟨m,hm,M⟩:=rk T.ok (aL prog w k) K hK DT hn;have hm':t.probe (dA es) (aL prog w k) (pt t.mask (aL prog w k) n)=some m:=hm;have ext:∀n2,(∀n',n<=n'->n'<n2->∃i,i<t.place.size/\t.place.getD i 0=(pt t.mask (aL prog w k) n').j/\dA es i≠aL prog w k)->
    ∀n',n'<n2->∃i,i<t.place.size/\t.place.getD i 0=(pt t.mask (aL prog w k) n').j/\∀rr,es[i]?=some (aL prog w k,.ref rr)->¬Y0 (YE prog w) s.heap k rr:=by
   intro n2 q n' hn';by_cases c:n'<n
   ·exact before n' c
   ·obtain⟨i,h1,h2,h3⟩:=q n' (by lia) hn'
    refine⟨i,h1,h2,fun rr e _=>h3 ?_⟩;unfold dA;rw[e];rfl
  split
  case h_2=>
   rename_i heq;exact (heq m hm).elim
  rename_i met heq;have em:met=m:=Ze (heq.symm.trans hm);subst em;clear heq;cases M with
  |free n2 h1 h2 h3=>
   refine Z6 (hQ _ (.free n2 ?_ h2 ?_))
   ·rintro⟨i,rr,e1,e2⟩;have hi:i<t.place.size:=by
     rw[T.sz]
     have:=X5.mp e1
     exact this.1
    have eh:dA es i=aL prog w k:=by unfold dA;rw[e1];rfl
    obtain⟨kk,q1,q2⟩:=T.ok.rc i hi;rw[eh]at q1 q2;by_cases c:kk<n2
    ·obtain⟨i',hi',p',nk⟩:=ext n2 h3 kk c;have same:i'=i:=by
      rcases Nat.lt_trichotomy i' i with d|d|d
      ·have:=T.ok.ri i' i d hi;lia
      ·exact d
      ·have:=T.ok.ri i i' d hi';lia
     subst same;exact nk rr e1 e2
    ·by_cases c2:kk=n2
     ·subst c2;exact h2 ⟨i,hi,q1.symm⟩
     ·exact h2 (q2 n2 (by lia))
   ·intro n' hn';obtain⟨i,h1,h2,_⟩:=ext n2 h3 n' hn';exact⟨i,h1,h2⟩
  |cand n2 i h1 h2 h3 h4 h5=>
   have hi:i<es.size:=by rw[<-T.sz];exact h2
   obtain⟨k',r',e1,e2⟩:=T.en i _ (ZX hi);have e1':es[i]?=some (aL prog w k',.ref r'):=by rw[ZX hi,e1]
   have hkk:aL prog w k'=aL prog w k:=by
    have:dA es i=aL prog w k':=by unfold dA;rw[e1'];rfl
    rw[<-this];exact h4
   have hslot:=nH T.ok.ri h2 h3;simp only;refine Bg (fun Q' hq=>rG hk ?_ hq) ?_
   ·intro y hy;obtain⟨e,he,rfl⟩:=Yu.mp hy;rw[Array.toList_filter]at he;have hm:=(ZG.mp he).1;obtain⟨ix,hix,q⟩:=Yv hm;have q':es[ix]?=some e:=by
     rw[<-Yx,Z3 hix,q]
    obtain⟨kx,rx,ex,hx⟩:=T.en ix e q';exact⟨rx,kx,by rw[ex],hx⟩
   ·rw[e1'];refine Z0 (YF (WK hu e2 hk ?_));refine Z0 (XD T.ho T.hd T.fits ?_);simp only;by_cases ce:k'=k
    ·subst ce;simp only[decide_true,XX,X6];exact Z6 (hQ _ (.there none ⟨i,r',e1',e2⟩))
    ·rw[ZO ce];simp only[WJ,Zw,ZK];have sm:t.sameMemory t.moves t.mask=some true:=by unfold Sr;simp
     rw[sm];simp only[X6,hslot,e1'];refine Z0 (wpAny_isSame_ref_self (Z0 (Z6 ?_)));simp only[X6];have hnK:n2≠K:=fun e=>hK (by rw[<-e,<-h3];exact⟨i,h2,rfl⟩)
     have Er:n2<K:=by
      rcases Nat.lt_trichotomy n2 K with c|c|c
      ·exact c
      ·exact absurd c hnK
      ·exfalso;obtain⟨i',q1,q2,_⟩:=h5 K hn c;exact hK ⟨i',q1,q2⟩
     refine ih (n2+1) (some _) (by lia) (by lia) rfl ?_
     intro n' hn';by_cases c:n'<n2
     ·exact ext n2 h5 n' c
     ·have:n'=n2:=by lia
      subst this;refine⟨i,h2,h3,fun rr er hrr=>?_⟩;rw[e1']at er;have er':r'=rr:=by
       have:=congrArg WL (Ze er)
       simpa using this
      subst er';exact ce (e2.inj hrr)
theorem bV{h h':ZE}{a r:Addr}{o:Obj}{k:List Int}(hk:Y0 (YE prog w) h k r)(ho:h.get? a=some o)(hc:o.cls=.type "set")(hs:X0 a h h'):Y0 (YE prog w) h' k r:=by
 obtain⟨o',items,n,C9,hc',hd',hi⟩:=hk;have D':r≠a:=by
  rintro rfl;obtain rfl:o'=o:=Ze (C9.symm.trans ho);rw[hc]at hc';exact absurd hc' (by decide)
 exact⟨o',items,n,(hs.2 r D').trans C9,hc',hd',hi⟩
theorem yN(a:Addr)(wanted:Nat):setRelay a wanted=(do
  let (es,_,t) <-setState a
  if SetTable.sizeAbove wanted>sizeLine then unsupported "set:memory"
  let (es,t) <-(do
   let some (t,order):=t.relaid (es.map (·.1)) wanted|unsupported "internal:set-table-without-room"
   let C':=order.filterMap (es[·]?)
   if C'.size != es.size then unsupported "internal:set-table-lost-an-element"
   pure (C',t))
  storeSet a es t):=rfl
theorem oh{h:ZE}{a:Addr}{o:Obj}{es:Array (Int×Value)}{ep:Nat}{t:Yh}(ho:h.get? a=some o)(hd:o.data=.set es ep t)(C':Array (Int×Value))(t':Yh):
  (h.update a (Vw C' t')).get? a=some {o with data:=.set C' (ep+1) t'}:=by
 have:=Yb (Vw C' t') ho (by rw[putSet_of C' t' hd];rfl)
 rw[putSet_of C' t' hd]at this;exact this
theorem lP{es:Array (Int×Value)}{order:Array Nat}(hs:order.size=es.size)(C_:∀i,i<es.size->order.getD i 0<es.size):
  (order.filterMap (es[·]?)).size=es.size/\∀(i:Nat),i<es.size->(order.filterMap (es[·]?))[i]?=es[order.getD i 0]?:=by
 have key:∀(l:List Nat),(∀x∈l,x<es.size)->(l.filterMap (es[·]?)).length=l.length/\∀i:Nat,i<l.length->(l.filterMap (es[·]?))[i]?=es[l.getD i 0]?:=by
  intro l
  induction l with
  |nil=>intro _;exact⟨rfl,fun i h=>absurd h (by simp)⟩
  |cons x l ih=>
   intro hx;have h0:es[x]?=some (es[x]'(hx x Zq)):=ZX _;obtain⟨i1,i2⟩:=ih fun y hy=>hx y (Z8 _ hy);rw[Xr,h0];refine⟨by simp[i1],fun i hi=>?_⟩
   cases i with
   |zero=>simp[h0]
   |succ i=>simpa using i2 i (by simpa using hi)
 have hl:=key order.toList (by
  intro x hx;obtain⟨i,hi,q⟩:=Yv hx;rw[ZY]at hi
  have:=C_ i (by lia)
  rw[ZC,ZX hi]at this;rw[<-q];simpa using this)
 have e:(order.filterMap (es[·]?)).toList=order.toList.filterMap (es[·]?):=by simp
 refine⟨by rw[<-ZY,e,hl.1,ZY,hs],fun i hi=>?_⟩
 rw[<-Yx,e,hl.2 i (by rw[ZY];lia)]
 congr 1;rw[Z2,Yx,ZC]
theorem yH{a:Addr}{o:Obj}{es:Array (Int×Value)}{ep:Nat}{t:Yh}(T:gQ prog w s.heap a o es ep t){wanted:Nat}(hw:sizeAbove wanted=32)(hn:es.size<=31){Q:Unit->Shared->Prop}
  (hQ:∀h' o' C' ep' t',X0 a s.heap h'->gQ prog w h' a o' C' ep' t'->t'.mask=31->C'.size=es.size->(∀e:Int×Value,(∃i:Nat,C'[i]?=some e)↔∃i:Nat,es[i]?=some e)->Q () {s with heap:=h'}):
  Zv (model prog w) A (setRelay a wanted) Q E s:=by
 obtain⟨t',order,e1,p1,p2,p3,p4,p5,p6,p7,p8,p9⟩:=ww (t:=t) (hashes:=es.map (·.1)) (wanted:=wanted) (by rw[hw]) (by rw[UI];exact hn)
 rw[UI]at p1 p2 p6 p7 p8;obtain⟨fs,fg⟩:=lP p2 p6;rw[yN];refine Z0 (XD T.ho T.hd T.fits ?_);simp only;have hz:¬sizeAbove wanted>sizeLine:=by rw[hw,WQ];lia
 rw[if_neg hz];refine Z0 ?_;rw[e1];simp only;have D':((order.filterMap (es[·]?)).size != es.size)=false:=by rw[fs];simp
 rw[if_neg (by rw[D'];exact Zs)]
 refine Z6 ?_;have hz2:(order.filterMap (es[·]?)).size<=sizeLine:=by rw[fs,WQ];lia
 refine Ux T.ho T.hd ?_ hz2;have sb:=XR s.heap a (Vw (order.filterMap (es[·]?)) t');refine hQ _ _ _ _ _ sb ⟨oh T.ho T.hd _ _,T.ex,rfl,by rw[p1,fs],?_,?_⟩ p3 fs ?_
 ·have same:∀i,i<t'.place.size->dA (order.filterMap (es[·]?)) i=(es.map (·.1)).getD (order.getD i 0) 0:=by
   intro i hi;unfold dA;rw[fg i (by lia)]
   generalize order.getD i 0=z;rw[ZC,Array.getElem?_map]
  refine⟨p9.dm,p9.ri,p9.le,p9.mm,p9.sz,fun i hi=>?_⟩;rw[same i hi];exact p9.rc i hi
 ·intro i e q;have hi:i<es.size:=by
   have h0:i<(order.filterMap (es[·]?)).size:=(X5.mp q).1;lia
  have q:(order.filterMap (es[·]?))[i]?=some e:=q;rw[fg i hi]at q;obtain⟨k,r,e1,e2⟩:=T.en _ e q;exact⟨k,r,e1,bV e2 T.ho T.ex.1 sb⟩
 ·intro e;constructor
  ·rintro⟨i,q⟩;have hi:i<es.size:=by
    have h0:i<(order.filterMap (es[·]?)).size:=(X5.mp q).1;lia
   have q:(order.filterMap (es[·]?))[i]?=some e:=q;rw[fg i hi]at q;exact⟨_,q⟩
  ·rintro⟨i,q⟩;have hi:i<es.size:=(X5.mp q).1;obtain⟨i',h1,h2⟩:=p7 i hi;exact⟨i',by rw[fg i' h1,h2];exact q⟩
theorem oq(es:Array (Int×Value))(p:Nat)(hp:p<=es.size)(h:Int)(x:Value):dA (insertAt es p (h,x))=tL (dA es) p h:=by
 funext i
 unfold dA tL;rw[db es p (h,x) hp i]
 (repeat' split)<;>rfl
theorem uh{t:Yh}{hs:Nat->Int}(ok:TOk t hs):t.tooFull=decide (t.place.size*5 ≥ t.mask*3):=by
 unfold V3 Tj;rw[ok.dm];simp
theorem nY{t:Yh}{hs:Nat->Int}(ok:TOk t hs)(b:Bool):TOk {t with plain:=b} hs:=⟨ok.dm,ok.ri,ok.le,ok.mm,ok.sz,ok.rc⟩
theorem AY{a r:Addr}{k:List Int}{o:Obj}{es:Array (Int×Value)}{ep:Nat}{t:Yh}(T:gQ prog w s.heap a o es ep t)(h7:t.mask=7->es.size<=4)(h12:es.size<=14)(hk:Y0 (YE prog w) s.heap k r)(hu:A.units<cLine)
  {Q:Bool->Shared->Prop}(Du:gR prog w s.heap es k->Q false s)
  (D_:¬gR prog w s.heap es k->∀h' o' C' ep' t',X0 a s.heap h'->gQ prog w h' a o' C' ep' t'->(t'.mask=7->C'.size<=4)->C'.size=es.size+1->
   (∀k',gR prog w h' C' k'↔gR prog w s.heap es k'\/k'=k)->Q true {s with heap:=h'}):
  Zv (model prog w) A (setAddHashed a (.ref r) (aL prog w k)) Q E s:=by
 unfold setAddHashed setAddHashedIn;refine YF (Z0 (XD T.ho T.hd T.fits ?_));simp only;have nb:byScan (.ref r) es=false:=rfl;rw[if_neg (by rw[nb];exact Zs)]
 obtain⟨K,DT,hK⟩:=T.ok.free (aL prog w k);unfold setSearch;have hmask:t.mask<=31:=by rcases T.ok.mm with e|e<;>lia
 refine Z0 (wC T hk hu ?_ K hK DT 100000 0 none (by lia) (Nat.zero_le _) rfl (fun _ h=>absurd h (by lia)))
 intro f hf;cases hf with
 |there x h=>exact Z6 (Du h)
 |free n h1 h2 h3=>
  have hj:=oN (mask:=t.mask) (aL prog w k) n;have hsz:t.place.size+1<=t.mask:=by
   rw[T.sz];rcases T.ok.mm with e|e
   ·have:=h7 e;lia
   ·lia
  have ok':=T.ok.put (h:=aL prog w k) h2 h3 (by lia) hsz
  have pp:=nW T.ok (pt t.mask (aL prog w k) n).j;have p2:(t.put (pt t.mask (aL prog w k) n).j).2=below t.place (pt t.mask (aL prog w k) n).j:=rfl;have bs:=gS T.ok.ri (pt t.mask (aL prog w k) n).j;simp only;refine Z0 (XD T.ho T.hd T.fits ?_);simp only;generalize (pt t.mask (aL prog w k) n).j=j at *
  have hp:below t.place j<=es.size:=by rw[<-T.sz];exact bs.1
  have tail:∀b:Bool,Zv (model prog w) A (do
    storeSet a (insertAt es (t.put j).2 (aL prog w k,Value.ref r)) { (t.put j).1 with plain:=b}
    if (!false&&V3 { (t.put j).1 with plain:=b})=true then do
     setRelay a (SetTable.grown (es.size+1))
     pure true
    else pure true) Q E s:=by
   intro b;have isz:=fv es (below t.place j) (aL prog w k,Value.ref r) hp;have hz:(insertAt es (t.put j).2 (aL prog w k,Value.ref r)).size<=sizeLine:=by rw[p2,isz,WQ];lia
   refine Z0 (Ux T.ho T.hd ?_ hz);have sb:=XR s.heap a (Vw (insertAt es (t.put j).2 (aL prog w k,Value.ref r)) { (t.put j).1 with plain:=b})
   have T1:gQ prog w (s.heap.update a (Vw (insertAt es (t.put j).2 (aL prog w k,Value.ref r)) { (t.put j).1 with plain:=b})) a {o with data:=.set (insertAt es (t.put j).2 (aL prog w k,Value.ref r)) (ep+1) { (t.put j).1 with plain:=b}} (insertAt es (t.put j).2 (aL prog w k,Value.ref r)) (ep+1) { (t.put j).1 with plain:=b}:=by
    refine⟨oh T.ho T.hd _ _,T.ex,rfl,?_,?_,?_⟩
    ·show (t.put j).1.place.size=_;rw[p2,isz,pp];show (insertAt t.place (below t.place j) j).size=_;rw[fv _ _ _ bs.1,T.sz]
    ·rw[p2,oq es _ hp];exact nY ok' b
    ·intro i e q;rw[p2,db es _ _ hp i]at q;by_cases c1:i<below t.place j
     ·rw[if_pos c1]at q;obtain⟨k',r',e1,e2⟩:=T.en i e q;exact⟨k',r',e1,bV e2 T.ho T.ex.1 sb⟩
     ·by_cases c2:i=below t.place j
      ·rw[if_neg c1,if_pos c2]at q;exact⟨k,r,(Ze q).symm,bV hk T.ho T.ex.1 sb⟩
      ·rw[if_neg c1,if_neg c2]at q;obtain⟨k',r',e1,e2⟩:=T.en _ e q;exact⟨k',r',e1,bV e2 T.ho T.ex.1 sb⟩
   have keys:∀h':ZE,(∀k' r',Y0 (YE prog w) s.heap k' r'->Y0 (YE prog w) h' k' r')->∀C':Array (Int×Value),(∀e:Int×Value,(∃i:Nat,C'[i]?=some e)↔∃i:Nat,(insertAt es (t.put j).2 (aL prog w k,Value.ref r))[i]?=some e)->
     ∀k',gR prog w h' C' k'↔gR prog w s.heap es k'\/k'=k:=by
    intro h' up C' E4 k';have mem:∀e:Int×Value,(∃i:Nat,(insertAt es (t.put j).2 (aL prog w k,Value.ref r))[i]?=some e)↔(∃i:Nat,es[i]?=some e)\/e=(aL prog w k,Value.ref r):=by
     intro e;rw[p2];constructor
     ·rintro⟨i,q⟩;rw[db es _ _ hp i]at q;by_cases c1:i<below t.place j
      ·rw[if_pos c1]at q;exact .inl ⟨i,q⟩
      ·by_cases c2:i=below t.place j
       ·rw[if_neg c1,if_pos c2]at q;exact .inr (Ze q).symm
       ·rw[if_neg c1,if_neg c2]at q;exact .inl ⟨_,q⟩
     ·rintro (⟨i,q⟩|rfl)
      ·by_cases c1:i<below t.place j
       ·exact⟨i,by rw[db es _ _ hp i,if_pos c1];exact q⟩
       ·exact⟨i+1,by rw[db es _ _ hp,if_neg (by lia),if_neg (by lia)];exact q⟩
      ·exact⟨below t.place j,by rw[db es _ _ hp,if_neg (by lia),if_pos rfl]⟩
    constructor
    ·rintro⟨i,r',q,hk'⟩;rcases (mem _).mp ((E4 _).mp ⟨i,q⟩) with ⟨i',q'⟩|q'
     ·obtain⟨k2,r2,e1,e2⟩:=T.en i' _ q';have er:r'=r2:=by have:=congrArg WL e1;simpa using this
      subst er
      have:k2=k':=(up _ _ e2).inj hk'
      subst this;exact .inl ⟨i',r',q',e2⟩
     ·have er:r'=r:=by have:=congrArg WL q';simpa using this
      subst er;exact .inr (hk'.inj (up _ _ hk))
    ·rintro (⟨i,r',q,hk'⟩|rfl)
     ·obtain⟨i',q'⟩:=(E4 _).mpr ((mem _).mpr (.inl ⟨i,q⟩));exact⟨i',r',q',up _ _ hk'⟩
     ·obtain⟨i',q'⟩:=(E4 _).mpr ((mem _).mpr (.inr rfl));exact⟨i',r,q',up _ _ hk⟩
   have full:V3 { (t.put j).1 with plain:=b}=decide ((es.size+1)*5 ≥ t.mask*3):=by
    rw[uh (nY ok' b)];show decide ((t.put j).1.place.size*5 ≥ (t.put j).1.mask*3)=_;rw[pp];show decide ((insertAt t.place (below t.place j) j).size*5 ≥ t.mask*3)=_;rw[fv _ _ _ bs.1,T.sz]
   rw[full];by_cases cf:(es.size+1)*5 ≥ t.mask*3
   ·rw[Zo cf];simp only[W6,Bool.and_self,X6];have h31:t.mask=7:=by rcases T.ok.mm with e|e<;>lia
    have h4:es.size=4:=by have:=h7 h31;lia
    refine Z0 (yH T1 (by rw[h4];decide) (by rw[p2,isz];lia) ?_)
    intro h' o' C' ep' t' sb' T' m' sz' mem';refine Z6 ?_;refine D_ h1 h' o' C' ep' t' (sb.trans sb') T' (fun e=>by lia) (by rw[sz',p2,isz]) ?_
    refine keys h' (fun k' r' hq=>?_) C' mem';exact bV (bV hq T.ho T.ex.1 sb) T1.ho T1.ex.1 sb'
   ·rw[ZO cf];simp only[W6,WJ,Zw,ZK];refine Z6 ?_;refine D_ h1 _ _ _ _ _ sb T1 (fun e=>?_) (by rw[p2,isz]) ?_
    ·have e':t.mask=7:=by
      have:(t.put j).1.mask=t.mask:=by rw[pp]
      rw[<-this];exact e
     rw[p2,isz];lia
    ·exact keys _ (fun k' r' hq=>bV hq T.ho T.ex.1 sb) _ (fun e=>Iff.rfl)
  have plainEq:(t.put j).1={ (t.put j).1 with plain:=(t.put j).1.plain}:=rfl
  cases D8:(t.put j).1.plain with
  |true=>
   simp only[X6];refine Z0 (kC hk ?_);simp only[X6]
   have:=tail true
   have e:({ (t.put j).1 with plain:=true}:Yh)=(t.put j).1:=by rw[<-D8]
   rw[e]at this;exact this
  |false=>
   simp only[Zw,ZK];refine Z0 (Z6 ?_);simp only[X6]
   have:=tail false
   have e:({ (t.put j).1 with plain:=false}:Yh)=(t.put j).1:=by rw[<-D8]
   rw[e]at this;exact this
end
end FS
end
section
namespace FS
open PySem PySem.SetTable
noncomputable def dN(key:Nat->List Int):Nat->Nat
 |0=>0
 |i+1=>dN key i+if (Z4 i).any fun j=>decide (key j=key i) then 0 else 1
theorem iX(key:Nat->List Int):∀i,dN key i<=i
 |0=>Nat.le_refl _
 |i+1=>by
  have:=iX key i
  unfold dN
  split<;>lia
theorem pw(key:Nat->List Int):∀i,dN key i<i↔∃a b,a<b/\b<i/\key a=key b
 |0=>⟨fun h=>absurd h (by unfold dN;lia),fun ⟨_,_,_,h,_⟩=>absurd h (by lia)⟩
 |i+1=>by
  have ih:=pw key i;have le:=iX key i;unfold dN;constructor
  ·intro h;by_cases c:((Z4 i).any fun j=>decide (key j=key i))=true
   ·obtain⟨j,hj,e⟩:=YD.mp c;exact⟨j,i,Zt.mp hj,by lia,Zi e⟩
   ·rw[if_neg c]at h;obtain⟨a,b,h1,h2,h3⟩:=ih.mp (by lia)
    exact⟨a,b,h1,by lia,h3⟩
  ·rintro⟨a,b,h1,h2,h3⟩;by_cases e:b=i
   ·subst e;have c:((Z4 b).any fun j=>decide (key j=key b))=true:=YD.mpr ⟨a,Zt.mpr h1,Zo h3⟩;rw[if_pos c];lia
   ·have:=ih.mpr ⟨a,b,h1,by lia,h3⟩
    split<;>lia
section
variable{prog:Zy}{w:Zm}{A:ZT}{R:VX->Shared->Prop}{I:Addr}{fp wr:List Addr}{G:Array WD->Array WD->Prop}{n:Nat}{P:Nat->Value->Prop}{St:Nat->Shared->Prop}
noncomputable def Holds(prog:Zy)(w:Zm)(h:ZE)(S:Addr)(key:Nat->List Int)(i:Nat):Prop:=
 ∃o es ep t,gQ prog w h S o es ep t/\(t.mask=7->es.size<=4)/\es.size=dN key i/\∀k',gR prog w h es k'↔∃j,j<i/\key j=k'
theorem tK{h h':ZE}{S:Addr}{key:Nat->List Int}{i:Nat}(H:Holds prog w h S key i)(k:∀b o,(b=S\/o.cls=.type "tuple")->h.get? b=some o->h'.get? b=some o):Holds prog w h' S key i:=by
 obtain⟨o,es,ep,t,T,h7,sz,ks⟩:=H;have up:∀k' r,Y0 (YE prog w) h k' r->Y0 (YE prog w) h' k' r:=by
  rintro k' r ⟨o,items,n,ho,hc,hd,hi⟩;exact⟨o,items,n,k r o (.inr hc) ho,hc,hd,hi⟩
 refine⟨o,es,ep,t,⟨k _ _ (.inl rfl) T.ho,T.ex,T.hd,T.sz,T.ok,fun i e q=>?_⟩,h7,sz,fun k'=>?_⟩
 ·obtain⟨k',r,e1,e2⟩:=T.en i e q;exact⟨k',r,e1,up _ _ e2⟩
 ·rw[<-ks k'];constructor
  ·rintro⟨i,r,q,e⟩;obtain⟨k2,r2,e1,e2⟩:=T.en i _ q;have er:r=r2:=by have:=congrArg WL e1;simpa using this
   subst er
   have:k2=k':=(up _ _ e2).inj e
   subst this;exact⟨i,r,q,e2⟩
  ·rintro⟨i,r,q,e⟩;exact⟨i,r,q,up _ _ e⟩
theorem yW(W:WalksS prog w A.in1 I fp wr G n P St)(S:Addr)(Dr:S∉fp)(hu:A.in1.units<cLine)(key:Nat->List Int)(rf:Nat->Addr)(hval:∀i v,P i v->v=.ref (rf i))(hn:n<=14)
  (hrf:∀i,i<n->rf i∉S::wr)(Es:∀i s,St i s->∀b∈wr,∀o,s.heap.get? b=some o->o.cls≠.type "tuple"):
  ∀(k i:Nat) (s:Shared),n-i=k->i<=n->St i s->Holds prog w s.heap S key i->(∀j,j<n->Y0 (YE prog w) s.heap (key j) (rf j))->
   (∀s',S6 (S::wr) G s s'->Holds prog w s'.heap S key n->R (.ok (.ret .none)) s')->
   XJ (model prog w) A (.builtin "set.update.loop" ⟨[.ref S,.ref I],[]⟩) R s:=by
 have hSw:S∉wr:=fun h=>Dr (W.sub _ h);have hsub:∀b∈wr,b∈S::wr:=fun b hb=>Z8 _ hb;have keep:∀{s s':Shared} {i:Nat},S6 wr G s s'->(∀b∈wr,∀o,s.heap.get? b=some o->o.cls≠.type "tuple")->Holds prog w s.heap S key i->Holds prog w s'.heap S key i:=by
  intro s s' i hm hw H;refine tK H fun b o hb e=>hm.heap b o ?_ e;intro hbw;rcases hb with rfl|hc
  ·exact hSw hbw
  ·exact hw b hbw o e hc
 intro k
 induction k with
 |zero=>
  intro i s hk hi CZ hS hkeys hR;have hin:i=n:=by lia
  subst hin;refine Xe XS ?_;rw[XH YX _];show Zv _ A.in1 (pyNext (.ref I)>>=_) _ _ s;refine Z0 (W.done s _ _ CZ fun s' hm=>?_);show Zv _ A.in1 (ret Value.none) _ _ s';exact Z6 (hR s' (hm.mono hsub) (keep hm (Es _ _ CZ) hS))
 |succ k ih=>
  intro i s hk hi CZ hS hkeys hR;have C_:i<n:=by lia
  refine Xe XS ?_;rw[XH YX _];show Zv _ A.in1 (pyNext (.ref I)>>=_) _ _ s;refine Z0 (W.item i s _ _ C_ CZ fun v s' hP hst' hm=>?_);obtain rfl:=hval i v hP;have hS':=keep hm (Es _ _ CZ) hS;have hkeys':∀j,j<n->Y0 (YE prog w) s'.heap (key j) (rf j):=by
   intro j hj;obtain⟨o,items,m,ho,r⟩:=hkeys j hj;exact⟨o,items,m,hm.heap _ o (fun z=>hrf j hj (Z8 _ z)) ho,r⟩
  show Zv _ A.in1 (holding [Value.ref (rf i)] (setAdd S (.ref (rf i)))>>=_) _ _ s';refine Z0 (YF ?_);unfold setAdd;refine YF ?_;refine Z0 (WM hu (hkeys' i C_) ?_);obtain⟨o,es,ep,t,T,h7,sz,ks⟩:=hS';have next:∀(h':ZE),X0 S s'.heap h'->Holds prog w h' S key (i+1)->
    Zv (model prog w) A.in1 (again (.builtin "set.update.loop" ⟨[.ref S,.ref I],[]⟩)) (fun fin s₁=>match fin with| .done f=>R (.ok f) s₁| .again c=>c.quiet/\XJ (model prog w) A c R s₁) (fun e s₁=>R (.error e) s₁) {s' with heap:=h',toks:=s'.toks+((key i).length+1)}:=by
   intro h' hsb hH;refine Z6 ⟨WX YX _,ih (i+1) _ (by lia) C_ (W.frame _ s' _ _ hst' (Nat.le_add_right _ _) fun b hb o e=>?_) hH ?_ (fun Dh hm'' hS''=>?_)⟩
   ·rw[hsb.2 b (fun h:b=S=>Dr (by rw[<-h];exact hb))];exact e
   ·intro j hj;exact bV (hkeys' j hj) T.ho T.ex.1 hsb
   ·refine hR Dh (Moved.trans W.gtrans ((hm.mono hsub).then_heap (Nat.le_add_right _ _) fun b o hb e=>?_) hm'') hS'';rw[hsb.2 b (fun h:b=S=>hb (by rw[h];exact Zq))];exact e
  have dl:=iX key i;refine AY (s:={s' with toks:=s'.toks+((key i).length+1)}) T h7 (by lia) (hkeys' i C_) hu (fun hin=>?_) (fun hnin h' o' C' ep' t' hsb T' h7' sz' ks'=>?_)
  ·refine next s'.heap (Uw _ _) ⟨o,es,ep,t,T,h7,?_,fun k'=>?_⟩
   ·have hin':=(ks _).mp hin;obtain⟨j,hj,e⟩:=hin';unfold dN;rw[if_pos (YD.mpr ⟨j,Zt.mpr hj,Zo e⟩),sz];rfl
   ·rw[ks];constructor
    ·rintro⟨j,hj,e⟩;exact⟨j,by lia,e⟩
    ·rintro⟨j,hj,e⟩;by_cases c:j=i
     ·subst c;subst e;exact (ks _).mp hin
     ·exact⟨j,by lia,e⟩
  ·refine next h' hsb ⟨o',C',ep',t',T',h7',?_,fun k'=>?_⟩
   ·unfold dN
    have:¬(((Z4 i).any fun j=>decide (key j=key i))=true):=by
     intro c;obtain⟨j,hj,e⟩:=YD.mp c;exact hnin ((ks _).mpr ⟨j,Zt.mp hj,Zi e⟩)
    rw[if_neg this,sz',sz]
   ·rw[ks' k'];constructor
    ·rintro (h|rfl)
     ·obtain⟨j,hj,e⟩:=(ks _).mp h;exact⟨j,by lia,e⟩
     ·exact⟨i,by lia,rfl⟩
    ·rintro⟨j,hj,e⟩;by_cases c:j=i
     ·subst c;exact .inr e.symm
     ·exact .inl ((ks _).mpr ⟨j,by lia,e⟩)
end
section
variable{prog:Zy}{w:Zm}{A:ZT}{E:Value->Shared->Prop}{s:Shared}
theorem rp{h:ZE}{S:Addr}{led:Bool}(key:Nat->List Int)(ho:h.get? S=some {cls:=.type "set",dict:=none,data:=.set #[] 0 (.fresh 0 0 led)}):Holds prog w h S key 0:=by
 refine⟨_,#[],0,_,⟨ho,⟨rfl,rfl,rfl⟩,rfl,rfl,wx _ _ _ _,fun i e q=>by simp at q⟩,fun _=>Nat.zero_le _,rfl,fun k'=>?_⟩
 constructor
 ·rintro⟨i,r,q,_⟩;simp at q
 ·rintro⟨j,hj,_⟩;lia
set_option maxHeartbeats 3200000 in
theorem lS{l:Addr}{items:Array Value}{key:Nat->List Int}{rf:Nat->Addr}{Q:Value->Shared->Prop}
  (hh:A.handled=none)(hu:A.units+20<cLine)(hl:s.heap.IsList l items)(hn:items.size<=14)(hi:∀(i:Nat) v,items[i]?=some v->v=.ref (rf i))(hk:∀i,i<items.size->Y0 (YE prog w) s.heap (key i) (rf i))
  (h:∀(h':ZE) (tk:Nat),Holds prog w h' s.heap.objs.size key items.size->(∀b o,b<s.heap.objs.size->s.heap.get? b=some o->h'.get? b=some o)->Q (.ref s.heap.objs.size) {s with heap:=h',toks:=tk}):
  Zv (model prog w) A (call (.type "set") [.ref l]) Q E s:=by
 obtain⟨c,tl,hmro⟩:=F.called_set.mro;have hmade:=F.called_set.made;have hsub:=F.called_set.sub;refine UD (codeAny_of_tree ?_);show Zv _ _ (callAny (.type "set") _) _ _ _;refine Z6 ⟨U2 _ (by decide +kernel),Xe F.entry_type_call ?_⟩
 rw[Around.under_plain (weight_type_call_type "set" [.ref l] []) rfl];have h1:=F.called_set.notType;have h2:=F.called_set.canCreate;have hct:=F.typeCall_set_1 (.ref l)
 repeat (any_goals (first|assumption|wp_step))
 refine XM (code_set_new_1 (.ref l) (E:=E) (Q₁:=fun obj s₁=>∃led:Bool,obj=.ref s.heap.objs.size/\s₁={s with heap:=s.heap.push {cls:=.type "set",dict:=none,data:=.set #[] 0 (.fresh 0 0 led)}}) fun led=>⟨led,rfl,rfl⟩) fun r s₁ hr=>?_
 cases r with
 |error e=>exact hr
 |ok fl=>
  cases fl with
  |ret obj=>
   obtain⟨led,rfl,rfl⟩:=hr;have hS:(s.heap.push {cls:=.type "set",dict:=none,data:=.set #[] 0 (.fresh 0 0 led)}).get? s.heap.objs.size=some {cls:=.type "set",dict:=none,data:=.set #[] 0 (.fresh 0 0 led)}:=Zl _ rfl;have hT:Shared.TypeIs {s with heap:=s.heap.push {cls:=.type "set",dict:=none,data:=.set #[] 0 (.fresh 0 0 led)}} (.ref s.heap.objs.size) "set" :=⟨_,hS,rfl⟩
   have hli:=F.called_set.init.lookup;have hbi:=F.called_set.init.bind (.ref s.heap.objs.size)
   repeat (any_goals (first|assumption|wp_step))
   refine XM (Wj (R:=wants (fun r s₂=>r=.none/\∃h' tk,s₂={s with heap:=h',toks:=tk}/\
     Holds prog w h' s.heap.objs.size key items.size/\
     (∀b o,b<s.heap.objs.size->s.heap.get? b=some o->h'.get? b=some o)) E) F.called_set.init.plain F.entry_set_init (check_set_init_1 hT ?_)) fun r₂ s₂ hr₂=>?_
   ·obtain⟨ol,hol,hcl,nl,hdl⟩:=hl;obtain⟨ocls,odict,odata,oslots⟩:=ol;simp only at hcl hdl;subst hcl;subst hdl;have hol':(s.heap.push {cls:=.type "set",dict:=none,data:=.set #[] 0 (.fresh 0 0 led)}).get? l=some {cls:=.type "list",dict:=odict,data:=.seq items nl,slots:=oslots}:=Z_ _ hol;have hsls:=F.sub_list_set;have hslf:=F.sub_list_frozenset;have D':(Value.type "list"==Value.type "dict")=false:=by decide
    have Dn:(s.heap.push {cls:=.type "set",dict:=none,data:=.set #[] 0 (.fresh 0 0 led)}).IsList l items:=⟨_,hol',rfl,nl,rfl⟩;unfold WS.«set.__init__» noKeywords Ue;generalize hPI:pyIter=PI
    wp_walk
    subst hPI;refine XC Dn ?_;refine Z0 (wpAny_runValue ?_);have hlS:l<s.heap.objs.size:=Zu hol;have hh3:A.in1.in1.in1.handled=none:=by simp[hh]
    have hneI:l≠(s.heap.push {cls:=.type "set",dict:=none,data:=.set #[] 0 (.fresh 0 0 led)}).objs.size:=by
     rw[YR];exact Nat.ne_of_lt (Nat.lt_succ_of_lt hlS)
    have Dr:s.heap.objs.size∉[(s.heap.push {cls:=.type "set",dict:=none,data:=.set #[] 0 (.fresh 0 0 led)}).objs.size,l]:=by
     rw[YR];simp only[Zx,Zg,Zr,or_false,not_or];exact⟨Nat.ne_of_lt (Nat.lt_succ_self _),Nat.ne_of_gt hlS⟩
    have rlt:∀i,i<items.size->rf i<s.heap.objs.size:=fun i hi'=>by
     obtain⟨o,_,_,ho,_⟩:=hk i hi';exact Zu ho
    refine yW ((Walks.list hh3 _ l hneI items).toS) s.heap.objs.size
     Dr (by simp only[Around.in1_units];lia) key rf hi hn ?_ ?hW (items.size-0) 0 _ (by lia) (Nat.zero_le _)
     ⟨⟨_,Zl _ rfl,rfl,rfl⟩,(Dn.push _)⟩ ?hS0 ?hK ?hR
    ·intro i hi'
     have:=rlt i hi'
     rw[YR];simp only[Zx,Zr,or_false,not_or];exact⟨Nat.ne_of_lt this,Nat.ne_of_lt (Nat.lt_succ_of_lt this)⟩
    case hS0=>
     exact rp (led:=led) key (Z_ _ hS)
    case hK=>
     intro j hj;obtain⟨o,f',m,ho,r⟩:=hk j hj;exact⟨o,f',m,Z_ _ (Z_ _ ho),r⟩
    case hW=>
     intro i s1 CZ b hb o e;have hb':=Zg.mp hb;subst hb';obtain⟨⟨o',C9,hc',_⟩,_⟩:=CZ;rw[C9]at e;cases e;rw[hc']
     decide
    case hR=>
     intro s' hm hS';obtain⟨h',g',d',tk',os'⟩:=s';have eg:g'=s.gens:=hm.gens;have ed:d'=s.drawn:=hm.drawn;have eo:os'=s.os:=hm.os;subst eg;subst ed;subst eo;show Zv _ _ _ _ _ _;refine Z6 ?_;show Zv _ _ (ret Value.none) _ _ _;refine Z6 ⟨rfl,h',tk',rfl,hS',fun b o hb e=>?_⟩;have hb1:b≠s.heap.objs.size:=Nat.ne_of_lt hb;have hb2:b≠(s.heap.push {cls:=.type "set",dict:=none,data:=.set #[] 0 (.fresh 0 0 led)}).objs.size:=by
      rw[YR];exact Nat.ne_of_lt (Nat.lt_succ_of_lt hb)
     exact hm.heap b o (by simp only[Zx,Zg,Zr,or_false,not_or];exact⟨hb1,hb2⟩) (Z_ _ (Z_ _ e))
   ·cases r₂ with
    |error e=>exact hr₂
    |ok fl₂=>
     cases fl₂ with
     |ret r=>
      obtain⟨rfl,h',tk,rfl,hS',hk'⟩:=hr₂
      repeat (any_goals (first|assumption|wp_step))
      exact h _ _ hS' hk'
     |_=>exact hr₂.elim
  |_=>exact hr.elim
end
end FS
end
section
namespace FS
open PySem
namespace F
theorem lri_no_len:typeLookup (.type "list_reverseiterator") "__len__" = pure none:=by rw[We,Xa];kernel_rfl
theorem lri_hint:typeLookup (.type "list_reverseiterator") "__length_hint__" = pure (some (.builtin "list_reverseiterator.__length_hint__")):=by rw[We,Xa];kernel_rfl
theorem sub_lri:isSubtype (.type "list_reverseiterator") (.type "list_reverseiterator")=pure true:=by rw[isSubtype_type];kernel_rfl
theorem zip_no_len:typeLookup (.type "zip") "__len__" = pure none:=by rw[We,Xa];kernel_rfl
theorem zip_no_hint:typeLookup (.type "zip") "__length_hint__" = pure none:=by rw[We,Xa];kernel_rfl
end F
section
variable{prog:Zy}{w:Zm}{A:ZT}{s:Shared}{R:VX->Shared->Prop}
variable{I:Addr}{fp wr:List Addr}{G:Array WD->Array WD->Prop}{n:Nat}{P:Nat->Value->Prop}{St:Nat->Shared->Prop}
theorem xE{E:Value->Shared->Prop}{Q:Bool->Shared->Prop}(hT:s.TypeIs (.ref I) "list_reverseiterator")(h:Q false s):Zv (model prog w) A (XE (.ref I)) Q E s:=by
 unfold XE;refine Z0 (YI hT F.lri_no_len ?_);show Zv _ A (specialOf (Value.ref I) (ZN "__length_hint__")>>=_) _ _ _;refine Z0 (YI hT F.lri_hint ?_);have Dq:splitId "list_reverseiterator.__length_hint__" = some ("list_reverseiterator","__length_hint__"):=by decide +kernel
 simp only[Dq];refine Z0 (Xp hT F.sub_lri ?_);simp only[Yk,Zw,ZK];exact Z6 h
theorem uD(W:WalksS prog w A.in1 I fp wr G n P St)(hT:∀i s,St i s->s.TypeIs (.ref I) "list_reverseiterator")(S:Addr)(res:Value)(c₀:Nat)(CZ:St 0 s)(Dr:S∉fp)(hI:I∈fp)
  (hS:s.heap.get? S=some {cls:=.type "list",data:=.seq #[] c₀})
  (hR:∀s' acc' c',S6 (S::wr) G s s'->s'.heap.get? S=some {cls:=.type "list",dict:=none,data:=.seq acc' c',slots:=#[]}->ItemsOf P acc' n->R (.ok (.ret res)) s')(hn:n<=sizeLine:=by size_fits):
  Zv (model prog w) A.in1 (Yz (.ref S) (.ref I) res)
   (fun fin s'=>match fin with| .done f=>R (.ok f) s'| .again c'=>c'.quiet=true/\XJ (model prog w) A c' R s') (fun e s'=>R (.error e) s') s:=by
 have hSI:S≠I:=fun e=>Dr (e ▸ hI);unfold Yz;refine Z0 (Uy (hT 0 _ CZ) ?_);have h1:Xw (.ref S) (.ref I)=false:=by simp[Xw,hSI]
 have h2:(Value.type "list_reverseiterator"==Value.type "list")=false:=by decide
 have h3:(Value.type "list_reverseiterator"==Value.type "tuple")=false:=by decide
 simp only[h1,h2,h3,VR,Zw,ZK];refine Z0 (W.self 0 _ _ _ CZ ?_);refine Z0 (YF (xE (hT 0 _ CZ) ?_));show Zv _ A.in1 (again (.builtin "list.extend.loop" ⟨[.ref S,.ref I,res],[]⟩)) _ _ _;refine Z6 ⟨WX YK _,codeAny_extend_loopS W hn _ Dr _ n 0 _ _ _ rfl (Nat.zero_le _) CZ hS (ItemsOf.nil P) fun s' acc' c' hm hS' hacc=>?_⟩;exact hR s' acc' c' hm hS' hacc
theorem oD(W:WalksS prog w A.in1 I fp wr G n P St)(hT:∀i s,St i s->s.TypeIs (.ref I) "list_reverseiterator")(S:Addr)(CZ:St 0 s)(Dr:S∉fp)(hI:I∈fp)
  (hS:s.heap.get? S=some {cls:=.type "list",data:=.seq #[]})
  (hR:∀s' acc' c',S6 (S::wr) G s s'->s'.heap.get? S=some {cls:=.type "list",dict:=none,data:=.seq acc' c',slots:=#[]}->ItemsOf P acc' n->R (.ok (.ret .none)) s')(hn:n<=sizeLine:=by size_fits):
  Zv (model prog w) A.in1 (WS.«list.__init__» ⟨[.ref S,.ref I],[]⟩)
   (fun fin s'=>match fin with| .done f=>R (.ok f) s'| .again c'=>c'.quiet=true/\XJ (model prog w) A c' R s') (fun e s'=>R (.error e) s') s:=by
 show Zv _ A.in1 (do let old <-Xj (.ref S);V4 (.ref S) (fun _=>#[]);letGo old.toList.reverse;Yz (.ref S) (.ref I) .none) _ _ s
 refine Z0 ?_;unfold Xj;refine Z0 (X4 hS rfl (Z6 ?_));show Zv _ A.in1 (updateSeq S (fun _=>#[])>>=fun _=>letGo (#[]:Array Value).toList.reverse>>=fun _=>Yz (.ref S) (.ref I) .none) _ _ s;refine Z0 (XY hS rfl ?_);have hS₂:=Yb (Ys (fun _=>(#[]:Array Value))) hS rfl;have oth:∀b o,b≠S->s.heap.get? b=some o->(s.heap.update S (Ys (fun _=>(#[]:Array Value)))).get? b=some o:=
  fun b o hb e=>(YH _ _ (Ne.symm hb)).trans e
 refine Z0 (S7 ?_);refine uD (hn:=hn) W hT S .none _ (W.frame 0 s _ s.toks CZ (Nat.le_refl _) fun b hb o e=>oth b o (fun h=>Dr (h ▸ hb)) e) Dr hI hS₂ fun s' acc' c' hm hS' hacc=>?_;exact hR s' acc' c' (Moved.trans W.gtrans ((Moved.refl W.grefl).then_heap (Nat.le_refl _) fun b o hb e=>oth b o (fun h=>hb (h ▸ Zq)) e) hm) hS' hacc
end
section
variable{prog:Zy}{w:Zm}{A:ZT}{E:Value->Shared->Prop}{s:Shared}
theorem oE{Q:Value->Shared->Prop}{I l:Addr}{items:Array Value}(hh:A.handled=none)(D':l≠I)(hit:s.heap.IsRevIter I l ((items.size:Int)-1))(hl:s.heap.IsList l items)(hn:items.size<=sizeLine)
  (hQ:∀h' tk (acc:Array Value) c',(∀b o,b≠I->s.heap.get? b=some o->h'.get? b=some o)->h'.get? s.heap.objs.size=some {cls:=.type "list",dict:=none,data:=.seq acc c',slots:=#[]}->
   acc.size=items.size->(∀(j:Nat) v,acc[j]?=some v->items[items.size-1-j]?=some v)->Q (.ref s.heap.objs.size) {s with heap:=h',toks:=tk}):
  Zv (model prog w) A (call (.type "list") [.ref I]) Q E s:=by
 have W:=(Walks.listRev (prog:=prog) (w:=w) (A:=A.in1.in1) (by simp[hh]) I l D' items).toS
 have hIlt:I<s.heap.objs.size:=by obtain⟨o,ho,_⟩:=hit;exact Zu ho
 have hllt:l<s.heap.objs.size:=by obtain⟨o,ho,_⟩:=hl;exact Zu ho
 have Dr:s.heap.objs.size∉[I,l]:=by
  simp only[Zx,Zr,or_false,not_or];exact⟨Nat.ne_of_gt hIlt,Nat.ne_of_gt hllt⟩
 refine UJ (Q₁:=fun obj s₁=>obj=.ref s.heap.objs.size/\s₁={s with heap:=s.heap.push {cls:=.type "list",data:=.seq #[]}}) VJ (V5 _) V6
  (Ti _ ⟨rfl,rfl⟩) fun obj s₁ h₁=>?_
 obtain⟨rfl,rfl⟩:=h₁;have hS:(s.heap.push {cls:=.type "list",data:=.seq #[]}).get? s.heap.objs.size=some {cls:=.type "list",data:=.seq #[]}:=Zl _ rfl;have hit0:s.heap.IsRevIter I l ((items.size:Int)-1-((0:Nat):Int)):=by simpa using hit
 refine⟨⟨_,hS,rfl⟩,WY _ _,oD (hn:=hn) W (fun i s st=>st.2.1.typeIs) _ ⟨Nat.zero_le _,hit0.at fun o e=>Z_ _ e,hl.push _⟩ Dr (by simp) hS fun s' acc' c' hm hS' hacc=>?_⟩
 refine⟨rfl,?_⟩;rw[Moved.eq_with hm];refine hQ s'.heap s'.toks acc' c' (fun b o hb e=>hm.heap b o ?_ (Z_ _ e)) hS' hacc.1 hacc.2;simp only[Zx,Zr,or_false,not_or];exact⟨Nat.ne_of_lt (Zu e),hb⟩
end
noncomputable abbrev dR(h:ZE)(z TI TO:Addr)(f0:Value)(f1:Bool):Prop:=
 h.get? z=some {cls:=.type "zip",dict:=none,data:=.fields #[f0,.bool f1,.bool false,.ref TI,.ref TO],slots:=#[]}
section
variable{prog:Zy}{w:Zm}{A:ZT}{E:Value->Shared->Prop}{s:Shared}
theorem l_{z TI TO T:Addr}{f1:Bool}{oT:Obj}{Q:Bool->Shared->Prop}(hz:dR s.heap z TI TO (Xb T) f1)(hT:s.heap.get? T=some oT)
  (h:∀h',dR h' z TI TO (Xb T) true->X0 z s.heap h'->Q false {s with heap:=h'}):Zv (model prog w) A (YB (.ref z)) Q E s:=by
 unfold YB;refine Z0 (Wi hz rfl (x:=Xb T) rfl ?_);show Zv _ _ (loadIfAlive (T:Int).toNat>>=_) _ _ _;have hal:∀{Q':Option Obj->Shared->Prop},Q' (some oT) s->Zv (model prog w) A (loadIfAlive ((T:Nat):Int).toNat) Q' E s:=by
  intro Q' hq;have e:s.heap.get? ((T:Nat):Int).toNat=some oT:=by simpa using hT
  intro Γ p hΓ;unfold loadIfAlive;rw[Sem.wp_loadIfAlive,e];exact hq
 refine Z0 (hal ?_);simp only[Option.isNone_some,Zw,ZK];refine Z0 (Wi hz rfl (x:=.bool f1) rfl ?_);cases f1 with
 |true=>
  rw[if_neg (by decide)]
  exact Z6 (h s.heap hz (Uw _ _))
 |false=>
  rw[if_pos (by decide)]
  refine Z0 (wpAny_setField_rec hz (by simp) fun h' hz' hs'=>Z6 (h h' hz' hs'))
theorem mQ{z TI TO T i1 i2 l1 l2:Addr}{f1:Bool}{oT:Obj}{k1 k2:Nat}{xs ys:Array Value}{x y a b:Value}{Q:Value->Shared->Prop}(D:V7 z TI TO i1 i2 l1 l2)
  (hz:dR s.heap z TI TO (Xb T) f1)(hT:s.heap.get? T=some oT)(DH:X8 s.heap TI (.ref i1) (.ref i2))(DA:X8 s.heap TO a b)
  (h1:s.heap.IsListIter i1 l1 k1)(h2:s.heap.IsListIter i2 l2 k2)(Dn:s.heap.IsList l1 xs)(DI:s.heap.IsList l2 ys)(hx:xs[k1]?=some x)(hy:ys[k2]?=some y)
  (hQ:∀h',dR h' z TI TO (Xb T) true->X8 h' TO a b->h'.IsListIter i1 l1 (k1+1)->h'.IsListIter i2 l2 (k2+1)->X8 h' s.heap.objs.size x y->h'.objs.size=s.heap.objs.size+1->
   (∀c o,c≠z->c≠TO->c≠i1->c≠i2->s.heap.get? c=some o->h'.get? c=some o)->Q (.ref s.heap.objs.size) {s with heap:=h'}):
  Zv (model prog w) A (WS.«zip.__next__» ⟨[.ref z],[]⟩) (fun fin s'=>∃v,fin=.done (.ret v)/\Q v s') E s:=by
 show Zv _ _ (field (.ref z) 2>>=_) _ _ _;refine Z0 (Wi hz rfl (x:=.bool false) rfl ?_);show Zv _ _ (field (.ref z) 3>>=_) _ _ _;refine Z0 (Wi hz rfl (x:=.ref TI) rfl ?_);refine Z0 (X4 DH rfl ?_);show Zv _ _ (YB (.ref z)>>=_) _ _ _;refine Z0 (l_ hz hT fun h₁ hz₁ hs₁=>?_);simp only[Zw,ZK];refine Z0 ?_;rw[<-YM];simp only[YJ,W7];refine Z0 (Z0 (YF ?_));show Zv _ _ (XQ (.ref i1)>>=_) _ _ _;refine Z0 (Vv (h1.extBut hs₁.extBut D.i1z) (Dn.extBut hs₁.extBut D.l1z) hx fun h₂ h1₂ hs₂=>Z6 (Z6 ?_));refine Z0 (Z0 (YF ?_));show Zv _ _ (XQ (.ref i2)>>=_) _ _ _;refine Z0 (Vv ((h2.extBut hs₁.extBut D.i2z).extBut hs₂.extBut D.i12.symm)
  ((DI.extBut hs₁.extBut D.l2z).extBut hs₂.extBut D.l2i1) hy fun h₄ h2₄ hs₄=>Z6 (Z6 (Z6 ?_)))
 show Zv _ _ (newTuple [x,y]>>=_) _ _ _;refine Z0 (wpAny_newTuple ?_ (by show 2<=sizeLine;rw[WQ];lia))
 have hsz:h₄.objs.size=s.heap.objs.size:=by rw[hs₄.1,hs₂.1,hs₁.1]
 have hz₄:dR h₄ z TI TO (Xb T) true:=hs₄.extBut _ _ D.i2z.symm (hs₂.extBut _ _ D.i1z.symm hz₁);have hk₄:∀c o,c≠z->c≠TO->c≠i1->c≠i2->s.heap.get? c=some o->h₄.get? c=some o:=fun c o c1 c2 c3 c4 e=>
  hs₄.extBut _ _ c4 (hs₂.extBut _ _ c3 (hs₁.extBut _ _ c1 e))
 have h1₄:h₄.IsListIter i1 l1 (k1+1):=h1₂.extBut hs₄.extBut D.i12;have hTO₄:X8 h₄ TO a b:=hs₄.extBut _ _ D.TOi2 (hs₂.extBut _ _ D.TOi1 (hs₁.extBut _ _ D.TOz DA));refine Z6 ⟨_,rfl,?_⟩;show Q (.ref h₄.objs.size) _;rw[hsz];have up:∀c o,h₄.get? c=some o->(h₄.push {cls:=.type "tuple",data:=.seq #[x,y]}).get? c=some o:=fun c o e=>Z_ _ e;refine hQ _ (up _ _ hz₄) (up _ _ hTO₄) (h1₄.at fun o e=>up _ o e) (h2₄.at fun o e=>up _ o e) ?_ ?_ fun c o c1 c2 c3 c4 e=>up c o (hk₄ c o c1 c2 c3 c4 e)
 ·rw[<-hsz];exact Zl _ rfl
 ·rw[YR,hsz]
theorem oo{z TI TO T i1 i2 l1 l2:Addr}{f1:Bool}{oT:Obj}{k1 k2:Nat}{xs ys:Array Value}{Q:Fin->Shared->Prop}(hh:A.handled=none)(D:V7 z TI TO i1 i2 l1 l2)
  (hz:dR s.heap z TI TO (Xb T) f1)(hT:s.heap.get? T=some oT)(DH:X8 s.heap TI (.ref i1) (.ref i2))
  (h1:s.heap.IsListIter i1 l1 k1)(Dn:s.heap.IsList l1 xs)(Do:xs[k1]?=none)
  (hE:∀h' e,(∀c o,c≠z->c≠TO->c≠i1->c≠i2->s.heap.get? c=some o->h'.get? c=some o)->(∃o,h'.get? e=some o/\o.cls=.type "StopIteration")->E (.ref e) {s with heap:=h'}):
  Zv (model prog w) A (WS.«zip.__next__» ⟨[.ref z],[]⟩) Q E s:=by
 show Zv _ _ (field (.ref z) 2>>=_) _ _ _;refine Z0 (Wi hz rfl (x:=.bool false) rfl ?_);show Zv _ _ (field (.ref z) 3>>=_) _ _ _;refine Z0 (Wi hz rfl (x:=.ref TI) rfl ?_);refine Z0 (X4 DH rfl ?_);show Zv _ _ (YB (.ref z)>>=_) _ _ _;refine Z0 (l_ hz hT fun h₁ hz₁ hs₁=>?_);simp only[Zw,ZK];refine Z0 ?_;rw[<-YM];simp only[YJ,W7];refine Z0 (Z0 (YF ?_));show Zv _ _ (XQ (.ref i1)>>=_) _ _ _;refine Z0 (wpAny_nextOf_list_end hh (h1.extBut hs₁.extBut D.i1z) (Dn.extBut hs₁.extBut D.l1z) Do fun h₂ e hs₂ he=>?_);exact hE h₂ e (fun c o c1 _ c3 _ q=>hs₂ _ _ c3 (hs₁.extBut _ _ c1 q)) he
theorem lr{z TI TO T i1 i2 l1 l2:Addr}{f1:Bool}{oT:Obj}{k1 k2:Nat}{xs ys:Array Value}{x y a b:Value}{Q:Option Value->Shared->Prop}(D:V7 z TI TO i1 i2 l1 l2)
  (hz:dR s.heap z TI TO (Xb T) f1)(DB:s.heap.get? T=some oT)(DH:X8 s.heap TI (.ref i1) (.ref i2))(DA:X8 s.heap TO a b)
  (h1:s.heap.IsListIter i1 l1 k1)(h2:s.heap.IsListIter i2 l2 k2)(Dn:s.heap.IsList l1 xs)(DI:s.heap.IsList l2 ys)(hx:xs[k1]?=some x)(hy:ys[k2]?=some y)
  (hQ:∀h',dR h' z TI TO (Xb T) true->X8 h' TO a b->h'.IsListIter i1 l1 (k1+1)->h'.IsListIter i2 l2 (k2+1)->X8 h' s.heap.objs.size x y->h'.objs.size=s.heap.objs.size+1->
   (∀c o,c≠z->c≠TO->c≠i1->c≠i2->s.heap.get? c=some o->h'.get? c=some o)->Q (some (.ref s.heap.objs.size)) {s with heap:=h'}):
  Zv (model prog w) A (pyNext (.ref z)) Q E s:=by
 have hT:s.TypeIs (.ref z) "zip" :=⟨_,hz,rfl⟩;unfold pyNext;exact Z0 (WZ (Xo (name:=ZN "__next__") hT XA
  (X3 XA hT Vu
   (mQ D hz DB DH DA h1 h2 Dn DI hx hy fun h' a1 a2 a3 a4 a5 a6 a7=>Z6 (hQ h' a1 a2 a3 a4 a5 a6 a7)) (V8 _))))
theorem ma{z TI TO T i1 i2 l1 l2:Addr}{f1:Bool}{oT:Obj}{k1:Nat}{xs:Array Value}{Q:Option Value->Shared->Prop}(hh:A.handled=none)(D:V7 z TI TO i1 i2 l1 l2)
  (hz:dR s.heap z TI TO (Xb T) f1)(DB:s.heap.get? T=some oT)(DH:X8 s.heap TI (.ref i1) (.ref i2))
  (h1:s.heap.IsListIter i1 l1 k1)(Dn:s.heap.IsList l1 xs)(Do:xs[k1]?=none)
  (hQ:∀h',(∀c o,c≠z->c≠TO->c≠i1->c≠i2->s.heap.get? c=some o->h'.get? c=some o)->Q none {s with heap:=h'}):Zv (model prog w) A (pyNext (.ref z)) Q E s:=by
 have hT:s.TypeIs (.ref z) "zip" :=⟨_,hz,rfl⟩;unfold pyNext;refine Z0 (WZ (Xo (name:=ZN "__next__") hT XA
  (X3 XA hT Vu (oo (k2:=0) (ys:=#[]) hh D hz DB DH h1 Dn Do fun h' e hk he=>?_) (V8 _))))
 obtain⟨o,ho,hc⟩:=he;refine Z0 (Xp (T := "StopIteration") (b:=true) ⟨o,ho,hc⟩ UK ?_);exact Z6 (hQ _ hk)
theorem mj{R:VX->Shared->Prop}{I S:Addr}{n:Nat}(hn:n<=sizeLine)(res:Value)(J:Nat->Array Value->Shared->Prop)(Fin:Array Value->Shared->Prop)
  (hsz:∀i acc s,J i acc s->acc.size=i)
  (item:∀i acc s (E:Value->Shared->Prop),i<n->J i acc s->Zv (model prog w) A.in1 (pyNext (.ref I)) (fun r s'=>∃v c,r=some v/\s'.heap.get? S=some {cls:=.type "list",dict:=none,data:=.seq acc c,slots:=#[]}/\
   J (i+1) (acc.push v) {s' with heap:=s'.heap.update S (Ys (·.push v))}) E s)
  (done:∀acc s (E:Value->Shared->Prop),J n acc s->Zv (model prog w) A.in1 (pyNext (.ref I)) (fun r s'=>r=none/\Fin acc s') E s)
  (hR:∀acc s',Fin acc s'->R (.ok (.ret res)) s'):
  ∀(k i:Nat) (acc:Array Value) (s:Shared),n-i=k->i<=n->J i acc s->XJ (model prog w) A (.builtin "list.extend.loop" ⟨[.ref S,.ref I,res],[]⟩) R s:=by
 intro k
 induction k with
 |zero=>
  intro i acc s hk hi hJ;have hin:i=n:=by lia
  subst hin;refine Xe WO ?_;rw[XH YK _];show Zv _ A.in1 (pyNext (.ref I)>>=_) _ _ s;refine Z0 (Y3 (done acc s _ hJ) (fun r s' zz=>?_) fun _ _ e=>e);obtain⟨hr,hf⟩:=zz;subst hr;exact Z6 (hR acc s' hf)
 |succ k ih=>
  intro i acc s hk hi hJ;have C_:i<n:=by lia
  refine Xe WO ?_;rw[XH YK _];show Zv _ A.in1 (pyNext (.ref I)>>=_) _ _ s;refine Z0 (Y3 (item i acc s _ C_ hJ) (fun r s' zz=>?_) fun _ _ e=>e);obtain⟨v,c,hr,hS,hJ'⟩:=zz;subst hr;have DS:=hsz i acc s hJ;show Zv _ A.in1 (updateSeq S (·.push v)>>=_) _ _ _;refine Z0 ?_;refine XY hS rfl (Z6 ⟨WX YK _,ih (i+1) _ _ (by lia) C_ hJ'⟩)
   (by rw[DS];lia) (by show (acc.push v).size<=sizeLine+1;rw[Ud,DS];lia)
structure oX(s₀:Shared)(z TI TO i1 i2 l1 l2 S N:Nat)(xs ys:Array Value)(i:Nat)(acc:Array Value)(s:Shared):Prop where
 st:∃h',s={s₀ with heap:=h'}
 sz:acc.size=i
 hs:s.heap.objs.size=N+i
 ac:∀j,j<i->∃x y,xs[j]?=some x/\ys[j]?=some y/\acc[j]?=some (.ref (N+j))/\X8 s.heap (N+j) x y
 zz:(i=0/\IsZip s.heap z TI TO .none)\/(0<i/\∃f1,dR s.heap z TI TO (Xb N) f1)
 ti:X8 s.heap TI (.ref i1) (.ref i2)
 to:∃a b,X8 s.heap TO a b
 h1:s.heap.IsListIter i1 l1 i
 h2:s.heap.IsListIter i2 l2 i
 l1:s.heap.IsList l1 xs
 l2:s.heap.IsList l2 ys
 ls:∃c,s.heap.get? S=some {cls:=.type "list",dict:=none,data:=.seq acc c,slots:=#[]}
 old:∀(b:Nat) o,b<N->b≠z->b≠TO->b≠i1->b≠i2->b≠S->s₀.heap.get? b=some o->s.heap.get? b=some o
theorem xM{s₀:Shared}{z TI TO i1 i2 l1 l2 S N:Nat}{xs ys:Array Value}(D:V7 z TI TO i1 i2 l1 l2)(E6:S≠z)(hSTI:S≠TI)(DJ:S≠TO)(De:S≠i1)(DC:S≠i2)(hSl1:S≠l1)(hSl2:S≠l2)
  (hN:z<N/\TI<N/\TO<N/\i1<N/\i2<N/\l1<N/\l2<N/\S<N)(Ed:xs.size=ys.size){i:Nat}(hi:i<xs.size){acc:Array Value}{s:Shared}(J:oX s₀ z TI TO i1 i2 l1 l2 S N xs ys i acc s){E:Value->Shared->Prop}:
  Zv (model prog w) A (pyNext (.ref z)) (fun r s'=>∃v c,r=some v/\s'.heap.get? S=some {cls:=.type "list",dict:=none,data:=.seq acc c,slots:=#[]}/\
   oX s₀ z TI TO i1 i2 l1 l2 S N xs ys (i+1) (acc.push v) {s' with heap:=s'.heap.update S (Ys (·.push v))}) E s:=by
 obtain⟨h0,rfl⟩:=J.st;have hx:xs[i]?=some xs[i]:=ZX hi;have hy:ys[i]?=some (ys[i]'(by lia)):=ZX (by lia)
 obtain⟨a,b,DA⟩:=J.to;obtain⟨c,hS⟩:=J.ls;have hsz:h0.objs.size=N+i:=J.hs;have fin:∀h':ZE,(∃f1,dR h' z TI TO (Xb N) f1)->(∃a b,X8 h' TO a b)->h'.IsListIter i1 l1 (i+1)->h'.IsListIter i2 l2 (i+1)->X8 h' (N+i) xs[i] (ys[i]'(by lia))->h'.objs.size=N+i+1->
   (∀(c:Nat) o,c≠z->c≠TO->c≠i1->c≠i2->h0.get? c=some o->h'.get? c=some o)->
   ∃v c,(some (Value.ref (N+i)):Option Value)=some v/\h'.get? S=some {cls:=.type "list",dict:=none,data:=.seq acc c,slots:=#[]}/\
    oX s₀ z TI TO i1 i2 l1 l2 S N xs ys (i+1) (acc.push v) {s₀ with heap:=h'.update S (Ys (·.push v))}:=by
  intro h' ⟨f1,hz'⟩ ⟨a',b',hTO'⟩ h1' h2' DB hs' hk';have hS':h'.get? S=some {cls:=.type "list",dict:=none,data:=.seq acc c,slots:=#[]}:=hk' S _ E6 DJ De DC hS;refine⟨.ref (N+i),c,rfl,hS',?_⟩;have up:∀(b:Nat) o,b≠S->h'.get? b=some o->(h'.update S (Ys (·.push (.ref (N+i))))).get? b=some o:=fun b o hb e=>(YH _ _ (Ne.symm hb)).trans e;have hS'':=Yb (Ys (·.push (Value.ref (N+i)))) hS' rfl;refine⟨⟨_,rfl⟩,by rw[Ud,J.sz],by show (h'.update S _).objs.size=_;rw[Ws,hs'];lia,?_,.inr ⟨by lia,f1,up _ _ (Ne.symm E6) hz'⟩,up _ _ (Ne.symm hSTI) (hk' _ _ D.TIz D.TITO D.TIi1 D.TIi2 J.ti),⟨a',b',up _ _ (Ne.symm DJ) hTO'⟩,
   h1'.at fun o e=>up _ o (Ne.symm De) e,h2'.at fun o e=>up _ o (Ne.symm DC) e,(J.l1.at fun o e=>hk' _ o D.l1z D.l1TO D.l1i1 D.l1i2 e).at fun o e=>up _ o (Ne.symm hSl1) e,
   (J.l2.at fun o e=>hk' _ o D.l2z D.l2TO D.l2i1 D.l2i2 e).at fun o e=>up _ o (Ne.symm hSl2) e,⟨_,hS''⟩,fun b o hb b1 b2 b3 b4 b5 e=>up b o b5 (hk' b o b1 b2 b3 b4 (J.old b o hb b1 b2 b3 b4 b5 e))⟩
  intro j hj;by_cases c:j=i
  ·subst c;exact⟨_,_,hx,hy,by rw[Wa,if_pos J.sz.symm],up _ _ (by lia) DB⟩
  ·obtain⟨x,y,e1,e2,e3,e4⟩:=J.ac j (by lia)
   refine⟨x,y,e1,e2,?_,up _ _ (by lia) (hk' _ _ (by lia) (by lia) (by lia) (by lia) e4)⟩
   rw[Wa,if_neg (by rw[J.sz];lia)];exact e3
 rcases J.zz with ⟨rfl,hz⟩|⟨Dl,f1,hz⟩
 ·refine wpAny_pyNext_zip_item D hz J.ti DA J.h1 J.h2 J.l1 J.l2 hx hy fun h' a1 a2 a3 a4 a5 a6 a7=>?_;have a1':dR h' z TI TO (Xb h0.objs.size) false:=a1;have a5':X8 h' h0.objs.size xs[0] (ys[0]'(by lia)):=a5
  have a6':h'.objs.size=h0.objs.size+1:=a6;rw[hsz]at a1' a5' a6';show ∃v c,(some (Value.ref h0.objs.size):Option Value)=some v/\_;rw[hsz];exact fin h' ⟨false,a1'⟩ ⟨_,_,a2⟩ a3 a4 a5' a6' a7
 ·obtain⟨x0,y0,_,_,_,hT0⟩:=J.ac 0 Dl;rw[Nat.add_zero]at hT0;refine lr D hz hT0 J.ti DA J.h1 J.h2 J.l1 J.l2 hx hy fun h' a1 a2 a3 a4 a5 a6 a7=>?_;have a5':X8 h' h0.objs.size xs[i] (ys[i]'(by lia)):=a5
  have a6':h'.objs.size=h0.objs.size+1:=a6;rw[hsz]at a5' a6';show ∃v c,(some (Value.ref h0.objs.size):Option Value)=some v/\_;rw[hsz];exact fin h' ⟨true,a1⟩ ⟨_,_,a2⟩ a3 a4 a5' a6' a7
theorem xI{s₀:Shared}{z TI TO i1 i2 l1 l2 S N:Nat}{xs ys:Array Value}(hh:A.handled=none)(D:V7 z TI TO i1 i2 l1 l2)(E6:S≠z)(DJ:S≠TO)(De:S≠i1)(DC:S≠i2)(hN:z<N/\TO<N/\i1<N/\i2<N)
  {acc:Array Value}{s:Shared}(J:oX s₀ z TI TO i1 i2 l1 l2 S N xs ys xs.size acc s){E:Value->Shared->Prop}:
  Zv (model prog w) A (pyNext (.ref z)) (fun r s'=>r=none/\∃h',s'={s₀ with heap:=h'}/\(∃c,h'.get? S=some {cls:=.type "list",dict:=none,data:=.seq acc c,slots:=#[]})/\acc.size=xs.size/\
   (∀j,j<xs.size->∃x y,xs[j]?=some x/\ys[j]?=some y/\acc[j]?=some (.ref (N+j))/\X8 h' (N+j) x y)/\∀(b:Nat) o,b<N->b≠z->b≠TO->b≠i1->b≠i2->b≠S->s₀.heap.get? b=some o->h'.get? b=some o) E s:=by
 obtain⟨h0,rfl⟩:=J.st;obtain⟨c,hS⟩:=J.ls;have Do:xs[xs.size]?=none:=Xk (Nat.le_refl _);have fin:∀h':ZE,(∀(c:Nat) o,c≠z->c≠TO->c≠i1->c≠i2->h0.get? c=some o->h'.get? c=some o)->
   (none:Option Value)=none/\∃h'',({s₀ with heap:=h'}:Shared)={s₀ with heap:=h''}/\(∃c,h''.get? S=some {cls:=.type "list",dict:=none,data:=.seq acc c,slots:=#[]})/\acc.size=xs.size/\
   (∀j,j<xs.size->∃x y,xs[j]?=some x/\ys[j]?=some y/\acc[j]?=some (.ref (N+j))/\X8 h'' (N+j) x y)/\∀(b:Nat) o,b<N->b≠z->b≠TO->b≠i1->b≠i2->b≠S->s₀.heap.get? b=some o->h''.get? b=some o:=by
  intro h' hk;refine⟨rfl,h',rfl,⟨c,hk _ _ E6 DJ De DC hS⟩,J.sz,fun j hj=>?_,fun b o hb b1 b2 b3 b4 b5 e=>hk b o b1 b2 b3 b4 (J.old b o hb b1 b2 b3 b4 b5 e)⟩;obtain⟨x,y,e1,e2,e3,e4⟩:=J.ac j hj;exact⟨x,y,e1,e2,e3,hk _ _ (by lia) (by lia) (by lia) (by lia) e4⟩
 rcases J.zz with ⟨h00,hz⟩|⟨Dl,f1,hz⟩
 ·obtain⟨a,b,DA⟩:=J.to;exact wpAny_pyNext_zip_end hh D hz J.ti DA J.h1 J.h2 J.l1 J.l2 (.inl Do) fun h' hk=>fin h' hk
 ·obtain⟨x0,y0,_,_,_,hT0⟩:=J.ac 0 Dl;rw[Nat.add_zero]at hT0;exact ma hh D hz hT0 J.ti J.h1 J.l1 Do fun h' hk=>fin h' hk
theorem oA{Q:Value->Shared->Prop}{l1 l2:Nat}{xs ys:Array Value}(hh:A.handled=none)(Dn:s.heap.IsList l1 xs)(DI:s.heap.IsList l2 ys)(Ed:xs.size=ys.size)(hn:xs.size<=sizeLine)
  (hQ:∀(h':ZE) (acc:Array Value) (S N:Nat) (c:Nat),(∀(b:Nat) o,s.heap.get? b=some o->h'.get? b=some o)->s.heap.objs.size<=S->S<N->h'.get? S=some {cls:=.type "list",dict:=none,data:=.seq acc c,slots:=#[]}->acc.size=xs.size->
   (∀j,j<xs.size->∃x y,xs[j]?=some x/\ys[j]?=some y/\acc[j]?=some (.ref (N+j))/\X8 h' (N+j) x y)->Q (.ref S) {s with heap:=h'}):
  Zv (model prog w) A (call (.type "zip") [.ref l1,.ref l2]) (fun v s1=>Zv (model prog w) A (call (.type "list") [v]) Q E s1) E s:=by
 have lt1:l1<s.heap.objs.size:=by obtain⟨o,ho,_⟩:=Dn;exact Zu ho
 have lt2:l2<s.heap.objs.size:=by obtain⟨o,ho,_⟩:=DI;exact Zu ho
 refine call_zip_2 Dn DI fun h' hz DH DA hi1 hi2 hsz hk=>?_;generalize hM:s.heap.objs.size=M at *
 have D:V7 (M+4) (M+2) (M+3) M (M+1) l1 l2:=by constructor<;>(show @Ne Nat _ _;lia)
 refine UJ (Q₁:=fun obj s₁=>obj=.ref h'.objs.size/\s₁={s with heap:=h'.push {cls:=.type "list",data:=.seq #[]}}) VJ (V5 _) V6
  (Ti _ ⟨rfl,rfl⟩) fun obj s₁ h₁=>?_
 obtain⟨rfl,rfl⟩:=h₁;have hS:(h'.push {cls:=.type "list",data:=.seq #[]}).get? h'.objs.size=some {cls:=.type "list",data:=.seq #[]}:=Zl _ rfl;refine⟨⟨_,hS,rfl⟩,WY _ _,?_⟩;rw[hsz]at hS ⊢;show Zv _ A.in1.in1 (do let old <-Xj (.ref (M+5));V4 (.ref (M+5)) (fun _=>#[]);letGo old.toList.reverse;Yz (.ref (M+5)) (.ref (M+4)) .none) _ _ _
 refine Z0 ?_;unfold Xj;refine Z0 (X4 hS rfl (Z6 ?_));show Zv _ A.in1.in1 (updateSeq (M+5) (fun _=>#[])>>=fun _=>letGo (#[]:Array Value).toList.reverse>>=fun _=>Yz (.ref (M+5)) (.ref (M+4)) .none) _ _ _;refine Z0 (XY hS rfl ?_);have hS₂:=Yb (Ys (fun _=>(#[]:Array Value))) hS rfl;refine Z0 (S7 ?_);have k2:∀(b:Nat) o,b<M+5->h'.get? b=some o->((h'.push {cls:=.type "list",data:=.seq #[]}).update (M+5) (Ys (fun _=>(#[]:Array Value)))).get? b=some o:=
  fun b o hb e=>(YH _ _ (show @Ne Nat _ _ by lia)).trans (Z_ _ e)
 have sz2:((h'.push {cls:=.type "list",data:=.seq #[]}).update (M+5) (Ys (fun _=>(#[]:Array Value)))).objs.size=M+6:=by rw[Ws,YR,hsz]
 generalize (h'.push {cls:=.type "list",data:=.seq #[]}).update (M+5) (Ys (fun _=>(#[]:Array Value)))=h2 at *
 have hTz:Shared.TypeIs {s with heap:=h2} (.ref (M+4)) "zip" :=⟨_,k2 _ _ (by lia) hz,rfl⟩
 unfold Yz;refine Z0 (Uy hTz ?_);have q1:Xw (.ref (M+5)) (.ref (M+4))=false:=by simp[Xw]
 have q2:(Value.type "zip"==Value.type "list")=false:=by decide
 have q3:(Value.type "zip"==Value.type "tuple")=false:=by decide
 simp only[q1,q2,q3,VR,Zw,ZK];refine Z0 (wpAny_pyIter_zip (k2 _ _ (by lia) hz) ?_)
 refine Z0 (YF ?_);unfold XE;refine Z0 (YI hTz F.zip_no_len ?_);show Zv _ A.in1.in1 (specialOf (Value.ref (M+4)) (ZN "__length_hint__")>>=_) _ _ _;refine Z0 (YI hTz F.zip_no_hint ?_);refine Z6 ?_;show Zv _ A.in1.in1 (rule "list.extend.makes-room">>=fun _=>TH (.ref (M+5))>>=fun _=>
  again (.builtin "list.extend.loop" ⟨[.ref (M+5),.ref (M+4),.none],[]⟩)) _ _ _
 refine Z0 (UL ?_);refine Z0 ?_;show Zv _ A.in1.in1 (updateSeq (M+5) (·.push .none)>>=fun _=>updateSeq (M+5) (·.pop)) _ _ _;refine Z0 (XY hS₂ rfl ?_);have hS₃:=Yb (Ys (·.push Value.none)) hS₂ rfl;refine XY (hz:=by seq_fits) hS₃ rfl ?_
 have hS₄:=Yb (Ys (·.pop)) hS₃ rfl;have k3:∀(b:Nat) o,b<M+5->h'.get? b=some o->((h2.update (M+5) (Ys (·.push Value.none))).update (M+5) (Ys (·.pop))).get? b=some o:=
  fun b o hb e=>(YH _ _ (show @Ne Nat _ _ by lia)).trans ((YH _ _ (show @Ne Nat _ _ by lia)).trans (k2 b o hb e))
 have sz3:((h2.update (M+5) (Ys (·.push Value.none))).update (M+5) (Ys (·.pop))).objs.size=M+6:=by rw[Ws,Ws,sz2]
 generalize ((h2.update (M+5) (Ys (·.push Value.none))).update (M+5) (Ys (·.pop)))=h3 at *
 refine Z6 ⟨WX YK _,mj (A:=A.in1) (n:=xs.size) hn .none (oX {s with heap:=h3} (M+4) (M+2) (M+3) M (M+1) l1 l2 (M+5) (M+6) xs ys)
  (fun acc s'=>∃h'',s'={s with heap:=h''}/\(∃c,h''.get? (M+5)=some {cls:=.type "list",dict:=none,data:=.seq acc c,slots:=#[]})/\acc.size=xs.size/\
   (∀j,j<xs.size->∃x y,xs[j]?=some x/\ys[j]?=some y/\acc[j]?=some (.ref (M+6+j))/\X8 h'' (M+6+j) x y)/\∀(b:Nat) o,b<M->h3.get? b=some o->h''.get? b=some o)
  (fun i acc s' J=>J.sz) (fun i acc s' E' hi J=>?_) (fun acc s' E' J=>?_) (fun acc s' hfin=>?_) xs.size 0 #[] _ rfl (Nat.zero_le _) ?_⟩
 ·exact xM (A:=A.in1.in1) D (by lia) (by lia) (by lia) (by lia) (by lia) (by lia) (by lia) (by lia) Ed hi J
 ·refine Y3 (xI (A:=A.in1.in1) (by simp[hh]) D (by lia) (by lia) (by lia) (by lia) (by lia) J) (fun r Dh ⟨hr,h'',e,hc,a1,a2,a3⟩=>⟨hr,h'',e,hc,a1,a2,fun b o hb q=>?_⟩) fun _ _ e=>e
  exact a3 b o (by lia) (by lia) (by lia) (by lia) (by lia) (by lia) q
 ·obtain⟨h'',rfl,⟨c,hc⟩,a1,a2,a3⟩:=hfin;refine⟨rfl,?_⟩;refine hQ h'' acc (M+5) (M+6) c (fun b o e=>?_) (by lia) (by lia) hc a1 a2
  have hb:b<M:=by rw[<-hM];exact Zu e
  exact a3 b o hb (k3 b o (by lia) (hk b o e))
 ·refine⟨⟨_,rfl⟩,rfl,sz3,fun j hj=>absurd hj (by lia),.inl ⟨rfl,k3 _ _ (by lia) hz⟩,k3 _ _ (by lia) DH,⟨_,_,k3 _ _ (by lia) DA⟩,hi1.at fun o e=>k3 _ o (by lia) e,hi2.at fun o e=>k3 _ o (by lia) e,
   (Dn.at fun o e=>hk _ o e).at fun o e=>k3 _ o (by lia) e,(DI.at fun o e=>hk _ o e).at fun o e=>k3 _ o (by lia) e,⟨_,hS₄⟩,fun b o _ _ _ _ _ _ e=>e⟩
end
end FS
end
section
namespace L2
open PySem PySem.Spec PyProof.Rows
theorem HOk.grow{P:Zy}{w:Zm}{H H':Hp}{h h':ZE}(x:HOk P w H h)(k:∀b u,h.get? b=some u->h'.get? b=some u)(hx:∀b u,H b=some u->H' b=some u)
  (new:∀b o,H' b=some o->H b=some o\/bh P w H' h' b o):HOk P w H' h':=fun b o e=>by
 rcases new b o e with q|q
 ·exact (x b o q).stay (fun c v _ z=>k c v z) (fun c z=>hx c _ z) fun c xs z=>hx c _ z
 ·exact q
theorem Inv.grow{X:Cx}{aa:List (Addr×Obj)}{σ:List (Option V)}{H H':Hp}{s:Shared}{h':ZE}{t':Nat}(I:Inv X aa σ H s)(k:∀b u,s.heap.get? b=some u->h'.get? b=some u)
  (ho:∀b u,s.heap.get? b=some u->H' b=H b)(hx:∀b u,H b=some u->H' b=some u)(new:∀b o,H' b=some o->H b=some o\/bh X.prog X.w H' h' b o):Inv X aa σ H' {s with heap:=h',toks:=t'}:=
 I.un ⟨fun b o e _ _ _=>k b o e,fun b o e _ _ _=>⟨o.slots,k b o e⟩,fun b o e n _=>(ho b o e).trans n,fun b o e _=>⟨o,k b o e⟩,fun b xs e=>hx b _ e,fun b o u e=>hx b _ e,fun b ps e=>⟨#[],by rw[hx b _ e];simp⟩⟩ (I.hok.grow k hx new)
theorem mw{scope:XT}{env:Env}(DD:∀y∈scope.names,y.2=.free->∃c,env.cells.lookup y.1=some c):
  ∃cl,closureFor scope env=pure cl/\(∀x c,cl.lookup x=some c->env.cells.lookup x=some c)/\∀y∈scope.names,y.2=.free->∃c,cl.lookup y.1=some c:=by
 have key:∀(l:List (Str×XU)) (cs:List (Str×Addr)),(∀y∈l,y.2=.free->∃c,env.cells.lookup y.1=some c)->(∀x c,cs.lookup x=some c->env.cells.lookup x=some c)->
   ∃cl,(forIn l cs (fun (x:Str×XU) (r:List (Str×Addr))=>(if (x.2==Yj)=true then do let c <-cellOf env x.1;pure (YU ((x.1,c)::r)) else pure (YU r):Sem (ForInStep (List (Str×Addr))))):Sem (List (Str×Addr)))=pure cl/\
    (∀x c,cl.lookup x=some c->env.cells.lookup x=some c)/\(∀y∈l,y.2=.free->∃c,cl.lookup y.1=some c)/\(∀x c,cs.lookup x=some c->∃c',cl.lookup x=some c'):=by
  intro l
  induction l with
  |nil=>intro cs _ h2;exact⟨cs,rfl,h2,fun y hy=>absurd hy (by simp),fun x c e=>⟨c,e⟩⟩
  |cons y l ih=>
   intro cs h1 h2;obtain⟨n,k⟩:=y;rw[YJ];by_cases hk:k=.free
   ·subst hk;obtain⟨c,hc⟩:=h1 (n,.free) Zq rfl;have e:cellOf env n=pure c:=by unfold cellOf;rw[hc]
    have h2':∀x c',((n,c)::cs).lookup x=some c'->env.cells.lookup x=some c':=by
     intro x c' q;rw[Y1]at q;cases hx:x==n with
     |true=>rw[hx]at q;have:=eq_of_beq hx;subst this;cases q;exact hc
     |false=>rw[hx]at q;exact h2 x c' q
    obtain⟨cl,q1,q2,q3,q4⟩:=ih ((n,c)::cs) (fun y hy=>h1 y (Z8 _ hy)) h2';refine⟨cl,?_,q2,fun y hy hf=>?_,fun x c' q=>?_⟩
    ·rw[if_pos (by rfl),e]
     exact q1
    ·rcases Zx.mp hy with rfl|hy
     ·exact q4 n c (by simp[Y1])
     ·exact q3 y hy hf
    ·rcases hx:x==n with _|_
     ·exact q4 x c' (by rw[Y1,hx];exact q)
     ·exact q4 x c (by rw[Y1,hx])
   ·have hb:(k==Yj)=false:=by simpa using hk
    obtain⟨cl,q1,q2,q3,q4⟩:=ih cs (fun y hy=>h1 y (Z8 _ hy)) h2;refine⟨cl,?_,q2,fun y hy hf=>?_,q4⟩
    ·rw[if_neg (by rw[hb];exact Zs)]
     exact q1
    ·rcases Zx.mp hy with rfl|hy
     ·exact absurd hf hk
     ·exact q3 y hy hf
 obtain⟨cl,q1,q2,q3,_⟩:=key scope.names [] DD (fun x c e=>by simp at e)
 refine⟨cl,?_,q2,q3⟩;have e:closureFor scope env=(forIn scope.names ([]:List (Str×Addr)) (fun (x:Str×XU) (r:List (Str×Addr))=>(if (x.2==Yj)=true then do let c <-cellOf env x.1;pure (YU ((x.1,c)::r)) else pure (YU r):Sem (ForInStep (List (Str×Addr))))):Sem (List (Str×Addr)))>>=pure:=rfl
 rw[e,q1]
 rfl
theorem iQ{env:Env}{k:XU}:∀{names:List (Str×XU)} {x:Str},names.lookup x=some k->k≠.local->
  (names.map fun (n,k)=>if (k==Yj&&env.scope.kind==.function&&env.kindOf n==some .cell) then (n,Xc) else (n,k)).lookup x=some k\/
  (k=.free/\(names.map fun (n,k)=>if (k==Yj&&env.scope.kind==.function&&env.kindOf n==some .cell) then (n,Xc) else (n,k)).lookup x=some .cell)
 | [],_,h,_=>by simp at h
 | (n,k')::r,x,h,hk=>by
  have ih:=@iQ env k r x;show Uh x ((if (k'==Yj&&env.scope.kind==.function&&env.kindOf n==some .cell)=true then (n,Xc) else (n,k'))::_)=_\/_/\Uh x ((if (k'==Yj&&env.scope.kind==.function&&env.kindOf n==some .cell)=true then (n,Xc) else (n,k'))::_)=_
  cases hx:x==n with
  |true=>
   simp only[Y1,hx]at h;cases h;by_cases hc:(k==Yj&&env.scope.kind==.function&&env.kindOf n==some .cell)=true
   ·right;rw[if_pos hc];simp only[Zc]at hc;exact⟨by simpa using hc.1.1,by simp only[Y1,hx]⟩
   ·left;rw[if_neg hc];simp only[Y1,hx]
  |false=>
   simp only[Y1,hx]at h;by_cases hc:(k'==Yj&&env.scope.kind==.function&&env.kindOf n==some .cell)=true
   ·rw[if_pos hc];simp only[Y1,hx];exact ih h hk
   ·rw[if_neg hc];simp only[Y1,hx];exact ih h hk
theorem jr{env:Env}:∀{names:List (Str×XU)} {x:Str} {k:XU},(names.map fun (n,k)=>if (k==Yj&&env.scope.kind==.function&&env.kindOf n==some .cell) then (n,Xc) else (n,k)).lookup x=some k->
  names.lookup x=some k\/(k=.cell/\names.lookup x=some .free)
 | [],_,_,h=>by simp at h
 | (n,k')::r,x,k,h=>by
  have ih:=@jr env r x k;have h:Uh x ((if (k'==Yj&&env.scope.kind==.function&&env.kindOf n==some .cell)=true then (n,Xc) else (n,k'))::(r.map fun (n,k)=>if (k==Yj&&env.scope.kind==.function&&env.kindOf n==some .cell) then (n,Xc) else (n,k)))=some k:=h
  by_cases hc:(k'==Yj&&env.scope.kind==.function&&env.kindOf n==some .cell)=true
  ·rw[if_pos hc]at h;have hf:k'=.free:=by simp only[Zc]at hc;simpa using hc.1.1
   cases hx:x==n with
   |true=>simp only[Y1,hx]at h ⊢;cases h;right;exact⟨rfl,by rw[hf]⟩
   |false=>simp only[Y1,hx]at h ⊢;exact ih h
  ·rw[if_neg hc]at h;cases hx:x==n with
   |true=>simp only[Y1,hx]at h ⊢;exact .inl h
   |false=>simp only[Y1,hx]at h ⊢;exact ih h
theorem ov{prog:Zy}{w:Zm}{A:ZT}{R:VX->Shared->Prop}{s:Shared}{elt target iter:Expr}{ifs:List Expr}{scope:XT}{pos:Pos}{it acc:Value}{env:Env}(I:Nat->Shared->Prop)
  (turn:∀n s,I n s->Zv (model prog w) A (pyNext it) (fun r s₁=>match r with
   |none=>R (.ok .next) s₁
   |some v=>Zv (model prog w) A (letOwnedTupleGo target it v) (fun _ s₀=>Zv (model prog w) A (assign target env v) (fun _ s₂=>
    Zv (model prog w) A (forIn ifs true fun c r=>if r=true then do let ok <-isTrue c env (eval c env);pure (YU ok) else pure (YU r)) (fun ok s₃=>
     if ok=true then Zv (model prog w) A (eval elt env) (fun x s₄=>
      Zv (model prog w) A (call (.builtin "list.append") [acc,x]) (fun _ s₅=>∃m,m<n/\I m s₅) (notedBy (model prog w) A env fun e s'=>R (.error e) s') s₄) (notedBy (model prog w) A env fun e s'=>R (.error e) s') s₃
     else ∃m,m<n/\I m s₃) (notedBy (model prog w) A env fun e s'=>R (.error e) s') s₂) (notedBy (model prog w) A env fun e s'=>R (.error e) s') s₀) (notedBy (model prog w) A env fun e s'=>R (.error e) s') s₁) (notedBy (model prog w) A env fun e s'=>R (.error e) s') s)
  (n:Nat)(h:I n s):
  XJ (model prog w) A (.compLoop (.ListComp elt [⟨target,iter,ifs,0⟩] scope pos) 0 it acc env) R s:=by
 refine codeAny_loop rfl I (fun n s hI=>?_) n h;show Zv _ A ((compTurn (.ListComp elt [⟨target,iter,ifs,0⟩] scope pos) 0 it acc env).onRaise (fun x=>do noteFrame x env;theTreesLotGoes x)) _ _ s
 refine wpAny_noted ?_;rw[compTurn_list];refine Z0 (Th (Z0 (Y3 (turn n s hI) (fun r s₁ h₁=>?_) fun _ _ h'=>h')));cases r with
 |none=>exact Z6 h₁
 |some v=>
  refine Z0 (Y3 h₁ (fun _ s₀ h₀=>?_) fun _ _ h'=>h');refine Z0 (Y3 h₀ (fun _ s₂ h₂=>Z0 (Y3 h₂ (fun ok s₃ h₃=>?_) fun _ _ h'=>h')) fun _ _ h'=>h');cases ok with
  |false=>exact Z6 ⟨rfl,h₃⟩
  |true=>
   exact Z0 (Z0 (Y3 h₃ (fun x s₄ h₄=>Z0 (Y3 h₄ (fun _ s₅ h₅=>Z6 (Z6 ⟨rfl,h₅⟩)) fun _ _ h'=>h')) fun _ _ h'=>h'))
noncomputable def PFs(X:Cx)(ifs:List Expr)(t:TT):Prop:=∀(aa:List (Addr×Obj)) (s:Shared) (σ:St) (H:Hp) (Q:Bool->Hp->Prop),Inv X aa σ H s->t σ H Q->
 Zv (model X.prog X.w) X.A (forIn ifs true fun c r=>if r=true then do let ok <-isTrue c X.env (eval c X.env);pure (YU ok) else pure (YU r)) (TP X aa σ Q) X.xe s
theorem eZ{X:Cx}:PFs X [] (fun _ H Q=>Q true H):=fun _ _ _ H _ I h=>wpAny_tests_nil ⟨H,I,h⟩
theorem gU{X:Cx}{c:Expr}{t:TT}(h:PT X c t):PFs X [c] t:=fun aa s σ H Q I q=>wpAny_tests_one (h aa s σ H Q I q)
noncomputable def bb(X:Cx)(scope:XT)(N':List Str)(C:Addr)(cl:List (Str×Addr))(fp:List Addr)(aa:List (Addr×Obj))(s₂:Shared)(H₂:Hp):Cx:=
 {X with N:=N',s₀:=s₂,H₀:=H₂,env:=compEnvC scope cl C X.env,outer:=X.stack,stack:=X.stack,ex:=fp,fn:=fun _=>false,pn:=X.pn++aa,xe:=fun _ _=>False}
noncomputable def compσ(own:Nat)(ae:List Nat)(σ:St):St:=WH own none++ae.map fun j=>σ.getD j none
noncomputable def dr(own:Nat)(ae:List Nat)(σ σ2:St):Prop:=σ2.length=(compσ own ae σ).length/\∀(i:Nat) v,(compσ own ae σ)[i]?=some (some v)->σ2[i]?=some (some v)
theorem fP{own:Nat}{ae:List Nat}{σ:St}{i:Nat}{v:Option V}(h:i<own):dr own ae σ ((compσ own ae σ).set i v):=by
 refine⟨Vm,fun j u e=>?_⟩;have ne:i≠j:=by
  rintro rfl;unfold compσ at e;rw[ZW (by simpa using h),Xq,if_pos h]at e;cases e
 rw[Xy ne];exact e
theorem l8{own:Nat}{ae:List Nat}{σ:St}{i j:Nat}{v w:Option V}(h:i<own)(h':j<own):dr own ae σ (((compσ own ae σ).set i v).set j w):=by
 refine⟨by rw[Vm,Vm],fun k u e=>?_⟩
 have ne:j≠k:=by
  rintro rfl;unfold compσ at e;rw[ZW (by simpa using h'),Xq,if_pos h']at e;cases e
 rw[Xy ne];exact (fP h).2 k u e
noncomputable def kf(wi:TI)(own:Nat)(ae:List Nat)(g:TG)(tt:TT)(te:TE):TE:=fun σ H Q=>wi σ H fun J H1=>∃(n:Nat) (W:Nat->List V->Hp->Prop),n<=sizeLine/\W 0 [] H1/\
 (∀ys H,W n ys H->J.stop n H/\∀D,H D=none->Q (.ref D) (upd H D (.lst ys)))/\
 ∀i ys H,i<n->W i ys H->J.go i H/\∀x H',J.yld i H x H'->g x (compσ own ae σ) H' fun σ2 H2=>dr own ae σ σ2/\tt σ2 H2 fun b H3=>if b=true then te σ2 H3 fun v H4=>W (i+1) (ys++[v]) H4 else W (i+1) ys H3
structure aT(X:Cx)(scope:XT)(N':List Str)(own:Nat)(ae:List Nat):Prop where
 cell:∀y∈scope.names,y.2≠.cell
 kind:scope.kind=.function
 names:∀y∈scope.names,y.2=.local->scope.names.lookup y.1=some .local
 free:∀y∈scope.names,y.2=.free->X.env.kindOf y.1=some .cell\/X.env.kindOf y.1=some .free
 len:N'.length=own+ae.length
 cap:∀(i j:Nat) x,ae[i]?=some j->N'[own+i]?=some x->X.N[j]?=some x/\scope.names.lookup x=some .free
section
variable{X:Cx}{elt iter tg:Expr}{ifs:List Expr}{scope:XT}{pos:Pos}{N':List Str}{own:Nat}{ae:List Nat}{wi:TI}{g:TG}{tt:TT}{te:TE}
theorem getD_σ{σ:St}{j:Nat}{v:V}(h:σ.getD j none=some v):σ[j]?=some (some v):=by
 rw[Z2]at h;cases q:σ[j]? with
 |none=>rw[q]at h;cases h
 |some o=>rw[q]at h;simp at h;rw[h]
theorem lZ(hc:X.calm=true)(S:aT X scope N' own ae)
  (hB:∀C cl fp aa s₂ H₂,PG (bb X scope N' C cl fp aa s₂ H₂) tg g/\PFs (bb X scope N' C cl fp aa s₂ H₂) ifs tt/\PE (bb X scope N' C cl fp aa s₂ H₂) elt te)
  {cl:List (Str×Addr)}(Dk:∀x c,cl.lookup x=some c->X.env.cells.lookup x=some c)(DY:∀y∈scope.names,y.2=.free->∃c,cl.lookup y.1=some c)
  {aa:List (Addr×Obj)}{σ:St}{H2:Hp}{s2:Shared}{it:Addr}{fp:List Addr}{tn:Nat->ZE->Prop}{J:It}(I2:Inv X aa σ H2 s2)(T:mP X.prog X.w X.K tg J fp it tn)(Dp:tn 0 s2.heap)(f2:∀b∈fp,jP X aa H2 b)
  {n:Nat}{W:Nat->List V->Hp->Prop}(hn:n<=sizeLine)(w0:W 0 [] H2)
  (Dg:∀i ys H,i<n->W i ys H->J.go i H/\∀x H',J.yld i H x H'->g x (compσ own ae σ) H' fun σ2 H2=>dr own ae σ σ2/\tt σ2 H2 fun b H3=>if b=true then te σ2 H3 fun v H4=>W (i+1) (ys++[v]) H4 else W (i+1) ys H3)
  (wstop:∀ys H,W n ys H->J.stop n H)
  {RR:Value->Addr->VX->Shared->Prop}
  (hRR:∀(D C:Addr) (s':Shared) (oC:Obj) (m:Str->Option Value) (ys:List V) (H':Hp),Inv X (aa++[(C,oC)]) σ (upd H' D (.lst ys)) s'->s'.heap.Ns C m->(X.s₀.heap.objs.size<=C)->(upd H' D (.lst ys)) C=none->C≠X.env.locals->(∀x c,X.env.cells.lookup x=some c->c≠C)->
   (∀p∈X.pn++aa,p.1≠C)->H' D=none->W n ys H'->RR (.ref D) C (.ok .next) s'){E:Value->Shared->Prop}:
  Zv (model X.prog X.w) X.A (newList []) (fun acc s₃=>Zv (model X.prog X.w) X.A (newFunctionEnv scope X.env.globals cl [] X.env.qual none .none (some X.env)) (fun cenv s₄=>
   XJ (model X.prog X.w) X.A (.compStart (.ListComp elt [⟨tg,iter,ifs,0⟩] scope pos) 0 (.ref it) acc {cenv with scope:=relabel scope X.env}) (RR acc cenv.locals) s₄) E s₃) E s2:=by
 refine W8 (wpAny_newFunctionEnv S.cell (by intro y hy;simp at hy) (fun h₁ hns₁ hsb₁=>?_) S.kind)
 dsimp only at hns₁ hsb₁ ⊢;generalize hH2:s2.heap.push {cls:=.type "list",dict:=none,data:=.seq ([]:List Value).toArray}=G2 at hns₁ hsb₁ ⊢;have hC:G2.objs.size=s2.heap.objs.size+1:=by rw[<-hH2,YR]
 generalize hCe:G2.objs.size=C at hns₁ hsb₁ hC ⊢;generalize hDe:s2.heap.objs.size=D at hC ⊢;have hDC:D≠C:=by rw[hC];exact Nat.ne_of_lt (Nat.lt_succ_self _)
 have below:∀b,b<D->b≠C/\b≠D:=fun b hb=>⟨by rw[hC];exact Nat.ne_of_lt (Nat.lt_succ_of_lt hb),Nat.ne_of_lt hb⟩
 have C_:∀b o,s2.heap.get? b=some o->b<D:=fun b o e=>by rw[<-hDe];exact Zu e
 have old:∀b o,s2.heap.get? b=some o->h₁.get? b=some o:=fun b o e=>hsb₁.extBut b o (below b (C_ b o e)).1 (Z_ _ (hH2 ▸ Z_ _ e));have hacc:h₁.PlainList D #[]:=⟨_,hsb₁.extBut _ _ hDC (Z_ _ (by rw[<-hH2,<-hDe];exact Zl _ rfl))⟩
 have fpl:∀b∈fp,b<D:=fun b hb=>by obtain⟨o,e,_⟩:=T.obj _ _ Dp b hb;exact C_ b o e
 have st₁:tn 0 h₁:=T.keep _ _ _ Dp fun b _ o e=>old b o e;have cellsOk:∀x c,cl.lookup x=some c->∃v,s2.heap.IsCell c v:=fun x c e=>I2.cell x c (Dk x c e);have Xok:(bb X scope N' C cl fp aa s2 H2).Ok:=by
  refine⟨I2.ok.mod,S.kind,I2.ok.glob,I2.ok.blt,?_,fun x y c h1 h2=>I2.ok.inj x y c (Dk x c h1) (Dk y c h2),fun x hx=>?_,fun x c h=>absurd h (by show ¬(false=true);decide),I2.ok.hd,I2.ok.frames,.inl rfl,fun b hb=>?_,I2.bs,?_,fun b o e hb=>?_,fun b hb=>?_,I2.stack,I2.stkFree⟩
  ·show s2.heap.objs.size<=C;rw[hDe,hC];exact Nat.le_succ _
  ·have hx':(relabel scope X.env).names.lookup x=some .cell\/(relabel scope X.env).names.lookup x=some .free:=hx;have hfx:scope.names.lookup x=some .free:=by
    rcases hx' with q|q
    ·rcases jr q with q|⟨_,q⟩
     ·exact absurd rfl (S.cell _ (Yo q))
     ·exact q
    ·rcases jr q with q|⟨e,_⟩
     ·exact q
     ·cases e
   exact DY _ (Yo hfx) rfl
  ·refine⟨(below b (fpl b hb)).1,fun x c e=>(f2 b hb).2.2.2.2.1 x c (Dk x c e)⟩
  ·exact Nat.le_trans I2.ok.bsz I2.sz
  ·obtain⟨_,_,_,q,_⟩:=f2 b hb;rcases q with q|q
   ·exact I2.ok.noex b o e q
   ·exact absurd (Nat.lt_of_lt_of_le (Zu e) (Nat.le_trans I2.ok.bsz q)) (Nat.lt_irrefl _)
  ·intro z;rcases Zx.mp (I2.stkSub b z) with q|q
   ·exact (f2 b hb).2.1 q
   ·exact (f2 b hb).2.2.1 q
 have cne:∀x c,cl.lookup x=some c->c<D:=fun x c e=>by obtain⟨v,o,ho,_⟩:=cellsOk x c e;exact C_ c o ho
 have I₁:∀tk,Inv (bb X scope N' C cl fp aa s2 H2) [] (compσ own ae σ) H2 {s2 with heap:=h₁,toks:=tk}:=by
  intro tk;refine⟨Xok,rfl,I2.bare,Un.kept old,⟨_,hns₁,fun i x v h1 h2 h3=>?_⟩,fun x c e=>?_,I2.hok.fresh (by rw[hDe,hC];exact Nat.le_succ _),fun x c e=>I2.freeC x c (Dk x c e),fun p hp=>?_,I2.hok.kept old,?_⟩
  ·
   have h2':(compσ own ae σ)[i]?=some (some v):=h2;have h1':N'[i]?=some x:=h1;unfold compσ at h2';by_cases ci:i<own
   ·rw[ZW (by simpa using ci),Xq,if_pos ci]at h2';cases h2'
   ·rw[Yt (by simpa using ci),Wz,Zj]at h2'
    cases cj:ae[i-own]? with
    |none=>rw[cj]at h2';cases h2'
    |some j=>
     rw[cj]at h2';have hv:=getD_σ (Ze h2');obtain⟨q1,q2⟩:=S.cap (i-own) j x cj (by rw[show own+(i-own)=i by lia];exact h1')
     have kx:=S.free _ (Yo q2) rfl;obtain⟨m,hm,hl⟩:=I2.loc;have vis:Vis X.env.scope x:=kx.elim (fun z=>.inr (.inl z)) fun z=>.inr (.inr z);obtain⟨u,ru,lk⟩:=hl j x v q1 hv vis;refine⟨u,ru,.inr ⟨?_,?_⟩⟩
     ·rcases iQ (env:=X.env) q2 (by decide) with z|⟨_,z⟩
      ·exact .inr z
      ·exact .inl z
     ·rcases lk with ⟨z,_⟩|⟨_,c,hc',hcell⟩
      ·exact absurd z (by rcases kx with k|k<;>rw[k]<;>decide)
      ·obtain⟨c2,hc2⟩:=DY _ (Yo q2) rfl
       have:=Dk _ _ hc2
       rw[hc']at this;cases this;obtain⟨o,ho,hd⟩:=hcell;exact⟨c,hc2,o,old c o ho,hd⟩
  ·obtain⟨v,o,ho,hd⟩:=cellsOk x c e;exact⟨v,o,old c o ho,hd⟩
  ·have hp':p∈X.pn++aa:=by simpa [bb]using hp
   obtain⟨q1,q2,q3,q4,q5⟩:=I2.pin p hp';refine⟨old _ _ q1,q2,(below _ (C_ _ _ q1)).1,fun z=>?_,q5⟩;rcases Zx.mp (I2.stkSub p.1 z) with q|q
   ·exact q3 q
   ·exact q4 q
  ·show (compσ own ae σ).length=N'.length;unfold compσ;rw[Z5,Wz,Z7,S.len]
 obtain⟨hg,ht,he⟩:=hB C cl fp aa s2 H2;have hD0:H2 D=none:=I2.hok.fresh (by rw[hDe];exact Nat.le_refl _)
 have dfs:D∉frs X.stack:=fun z=>by
  rcases Zx.mp (I2.stkSub D z) with q|q
  ·have:=I2.lt;rw[hDe,<-q]at this;exact Nat.lt_irrefl _ this
  ·exact I2.nofs (by rw[hDe];exact Nat.le_refl _) q
 have loop:∀s₃:Shared,s₃={s2 with heap:=h₁,toks:=s2.toks+([]:List (Str×Value)).length}->
   XJ (model X.prog X.w) X.A (.compLoop (.ListComp elt [⟨tg,iter,ifs,0⟩] scope pos) 0 (.ref it) (.ref D) (compEnvC scope cl C X.env)) (RR (.ref D) C) s₃:=by
  rintro s₃ rfl;refine ov (fun k s'=>∃i ys H',k=n+1-i/\i<=n/\ys.length<=i/\Inv (bb X scope N' C cl fp aa s2 H2) [] (compσ own ae σ) H' s'/\tn i s'.heap/\(∀b∈fp,H' b=none)/\H' D=none/\(∃f',aJ ys f'/\s'.heap.PlainList D f'.toArray)/\W i ys H') ?_ (n+1)
   ⟨0,[],H2,rfl,Nat.zero_le _,Nat.le_refl _,I₁ _,st₁,fun b hb=>(f2 b hb).1,hD0,⟨[],.nil,hacc⟩,w0⟩
  rintro k s' ⟨i,ys,H',rfl,hi,hyl,I',st',fr',hDn,⟨f',rv,D8⟩,w'⟩;have noE:∀{Q':Value->Shared->Prop} (e:Value) (Dh:Shared),False->Q' e Dh:=fun _ _ z=>z.elim;obtain⟨nD,hDo⟩:=D8;have pinD:∀{σ1:St} {H1:Hp} {s1:Shared},Inv (bb X scope N' C cl fp aa s2 H2) [] σ1 H1 s1->s1.heap.get? D=some {cls:=.type "list",data:=.seq f'.toArray nD}->H1 D=none->
    Inv (bb X scope N' C cl fp aa s2 H2) [(D,{cls:=.type "list",data:=.seq f'.toArray nD})] σ1 H1 s1:=fun I1 e1 e2=>
   I1.pins_of fun p hp=>by
    have e:p=(D,{cls:=.type "list",data:=.seq f'.toArray nD}):=Zg.mp hp;subst e;exact⟨e1,e2,hDC,dfs,fun v z=>by cases z⟩
  have stat:∀{H1:Hp},(∀b∈fp,H1 b=none)->∀b∈fp,jP (bb X scope N' C cl fp aa s2 H2) [(D,{cls:=.type "list",data:=.seq f'.toArray nD})] H1 b:=fun hn' b hb=>by
   refine⟨hn' b hb,(below b (fpl b hb)).1,fun z=>?_,.inl hb,fun x c e=>(f2 b hb).2.2.2.2.1 x c (Dk x c e),fun p hp=>?_⟩
   ·rcases Zx.mp (I2.stkSub b z) with q|q
    ·exact (f2 b hb).2.1 q
    ·exact (f2 b hb).2.2.1 q
   ·rcases ZH.mp hp with q|q
    ·exact (f2 b hb).2.2.2.2.2 p q
    ·have e:p=(D,{cls:=.type "list",data:=.seq f'.toArray nD}):=Zg.mp q;subst e;exact fun z=>(below b (fpl b hb)).2 z.symm
  have Ip:=pinD I' hDo hDn;by_cases hlt':i<n
  ·obtain⟨go,step⟩:=Dg i ys H' hlt' w';refine Y3 (T.item (bb X scope N' C cl fp aa s2 H2) rfl rfl rfl hc i _ s' _ H' (fun _ _=>False) Ip (stat fr') st' go) (fun r s4 zz=>?_) noE;obtain⟨u,hr,h4⟩:=zz;subst hr;refine Y3 h4 (fun _ s5 zz=>?_) noE;obtain⟨x,H5,I5,r5,y5,st5,fr5⟩:=zz;have I5':=I5.pinned (stat fr5) (T.obj _ _ st5);refine Y3 (hg _ s5 _ H5 x u _ I5' r5 (step x H5 y5)) (fun _ s6 zz=>?_) noE;obtain⟨σ6,H6,I6,kc,q6⟩:=zz;refine Y3 (ht _ s6 σ6 H6 _ I6 q6) (fun b s7 zz=>?_) noE;obtain⟨H7,I7,q7⟩:=zz;have back:∀{H8:Hp} {s8:Shared},Inv (bb X scope N' C cl fp aa s2 H2) ([(D,{cls:=.type "list",data:=.seq f'.toArray nD})]++jC fp s5.heap) σ6 H8 s8->
     Inv (bb X scope N' C cl fp aa s2 H2) [] (compσ own ae σ) H8 s8/\tn (i+1) s8.heap/\(∀b∈fp,H8 b=none)/\H8 D=none/\s8.heap.get? D=some {cls:=.type "list",data:=.seq f'.toArray nD}:=fun {H8 s8} I8=>by
    have pD:=I8.pin (D,{cls:=.type "list",data:=.seq f'.toArray nD}) (Zb _ (XG _ (Zg.mpr rfl)));have pF:∀b∈fp,∀o,s5.heap.get? b=some o->s8.heap.get? b=some o/\H8 b=none:=fun b hb o e=>
     have q:=I8.pin (b,o) (Zb _ (Zb _ (iT hb e)))
     ⟨q.1,q.2.1⟩
    refine⟨?_,T.keep _ _ _ st5 fun b hb o e=>(pF b hb o e).1,fun b hb=>?_,pD.2.1,pD.1⟩
    ·have I9:Inv (bb X scope N' C cl fp aa s2 H2) [] σ6 H8 s8:=I8.pins_of fun p hp=>absurd hp (by simp)
     exact I9.weak kc.1.symm kc.2
    ·obtain⟨o,e,_⟩:=T.obj _ _ st5 b hb;exact (pF b hb o e).2
   cases b with
   |false=>
    simp only[Zw,ZK]at q7 ⊢;obtain⟨J1,J2,J3,J4,J5⟩:=back I7;exact⟨n+1-(i+1),by lia,i+1,ys,H7,rfl,hlt',by lia,J1,J2,J3,J4,⟨f',rv,nD,J5⟩,q7⟩
   |true=>
    simp only[X6]at q7 ⊢;refine Y3 (he _ s7 σ6 H7 _ I7 q7) (fun y s8 zz=>?_) noE;obtain⟨v,H8,I8,r8,q8⟩:=zz;obtain⟨J1,J2,J3,J4,J5⟩:=back I8;have hlen:=rv.length;refine wpAny_list_append_plain ⟨nD,J5⟩ (fun h9 hpl9 hsb9=>?_) (by rw[Z9];lia)
    refine⟨n+1-(i+1),by lia,i+1,ys++[v],H8,rfl,hlt',by rw[Z5,Yn];lia,?_,T.keep _ _ _ J2 fun b hb o e=>hsb9.extBut b o (below b (fpl b hb)).2 e,J3,J4,⟨f'++[y],rv.append (.cons r8 .nil),?_⟩,q8⟩
    ·refine J1.turned (t':=s8.toks) (it:=D) (fun b o hb e=>hsb9.extBut b o hb e) J4 hDC (.inr ?_) (fun x c e=>Nat.ne_of_lt (cne x c e)) (fun p hp=>?_)
     ·show s2.heap.objs.size<=D;rw[hDe];exact Nat.le_refl _
     ·have hp':p∈X.pn++aa:=by simpa [bb]using hp
      exact Nat.ne_of_lt (C_ _ _ (I2.pin p hp').1)
    ·have e:(f'++[y]).toArray=f'.toArray.push y:=by simp
     rw[e];exact hpl9
  ·have hin:i=n:=by lia
   subst hin;refine Y3 (T.done (bb X scope N' C cl fp aa s2 H2) rfl rfl rfl hc i _ s' _ H' (fun _ _=>False) Ip (stat fr') st' (wstop ys H' w')) (fun r s4 zz=>?_) noE;obtain⟨hr,I4⟩:=zz;subst hr;have pD:=I4.pin (D,{cls:=.type "list",data:=.seq f'.toArray nD}) (Zb _ (Zg.mpr rfl));obtain⟨m,hm,_⟩:=I4.loc;obtain⟨oC,es,ep,hoC,hdC,hrest⟩:=id hm;have hCn:H' C=none:=I4.free;have hlen:=rv.length;have u1:Un (frs X.stack) fp H2 H' s2.heap s4.heap:=I4.base;have okL:bh X.prog X.w (upd H' D (.lst ys)) s4.heap D (.lst ys):=⟨by lia,f',nD,rv,pD.1⟩
   have hokL:HOk X.prog X.w (upd H' D (.lst ys)) s4.heap:=fun b o e=>by
    by_cases hb:b=D
    ·subst hb;rw[ah]at e;cases e;exact okL
    ·rw[aG hb]at e;exact (I4.hok b o e).stay (fun c v _ q=>q) (fun c q=>by rw[aG (a8 q hDn)];exact q) fun c xs q=>by rw[aG (a8 q hDn)];exact q
   have I5:Inv X aa σ (upd H' D (.lst ys)) s4:=by
    refine I2.call' (ch:=fp) I4.os ⟨u1.keep,u1.slot,fun b o e n' hb=>?_,u1.there,fun b xs e=>?_,fun b o u e=>?_,fun b ps e=>?_⟩ hokL I4.bare fun b hb=>⟨(f2 b hb).2.2.2.1,(f2 b hb).2.1,(f2 b hb).2.2.2.2.1,(f2 b hb).2.2.2.2.2⟩
    ·rw[aG (Nat.ne_of_lt (C_ b o e))];exact u1.free b o e n' hb
    ·rw[aG (a8 e hD0)];exact u1.tups b xs e
    ·rw[aG (a8 e hD0)];exact u1.frzs b o u e
    ·rw[aG (a8 e hD0)];exact u1.tbls b ps e
   have Cge:s2.heap.objs.size<=C:=by rw[hDe,hC];exact Nat.le_succ _
   have CL:C≠X.env.locals:=Nat.ne_of_gt (Nat.lt_of_lt_of_le I2.lt Cge);have Cu:(upd H' D (.lst ys)) C=none:=by rw[aG (Ne.symm hDC)];exact hCn
   have CF:C∉X.fs:=I2.nofs Cge;refine hRR D C s4 oC m ys H' ?_ hm (Nat.le_trans I2.sz Cge) Cu CL (fun x c e=>?_) (fun p hp=>?_) hDn w'
   ·refine I5.pins_of fun p hp=>?_;rcases ZH.mp hp with q|q
    ·exact I5.pin p (Zb _ q)
    ·have e:p=(C,oC):=Zg.mp q;subst e;exact⟨hoC,Cu,CL,CF,fun v z=>by rw[hdC]at z;cases z⟩
   ·obtain⟨v,q⟩:=I2.cell x c e;exact Nat.ne_of_lt (Nat.lt_of_lt_of_le q.lt Cge)
   ·exact Nat.ne_of_lt (Nat.lt_of_lt_of_le (Zu (I2.pin p hp).1) Cge)
 exact codeAny_compStart_list (loop _ rfl) (T.self _ _ _ _ _ st₁ (loop _ rfl))
theorem zG(hc:X.calm=true)(S:aT X scope N' own ae)(hi:PI X tg iter wi)
  (hB:∀C cl fp aa s₂ H₂,PG (bb X scope N' C cl fp aa s₂ H₂) tg g/\PFs (bb X scope N' C cl fp aa s₂ H₂) ifs tt/\PE (bb X scope N' C cl fp aa s₂ H₂) elt te)
  (hs:∀x,foldedSetIterable iter X.env x=pure x:=by intro _;rfl):PE X (.ListComp elt [⟨tg,iter,ifs,0⟩] scope pos) (kf wi own ae g tt te):=by
 intro aa s σ H Q I h;obtain⟨cl,q1,q2,q3⟩:=mw (scope:=scope) (env:=X.env) (fun y hy hf=>I.ok.has y.1 (S.free y hy hf));rw[eval_ListComp];refine V0 (use:=none) rfl hs q1 S.kind S.names (thn (hi aa s σ H _ I h) fun v s1 h1=>thn h1 fun E5 s2 h2=>?_);obtain⟨it,fp,tn,J,H2,e,I2,T,Dp,f2,n,W,hn,w0,wend,Dg⟩:=h2;subst e;refine lZ hc S hB q2 q3 I2 T Dp f2 hn w0 Dg (fun ys H w=>(wend ys H w).1) ?_;intro D C s' oC m ys H' IC hm h1 h2 h3 h4 h5 hD w;refine⟨m,hm,fun h' hs'=>?_⟩;have I0:Inv X aa σ (upd H' D (.lst ys)) s':=IC.unpinned;exact⟨.ref D,_,I0.turned (t':=s'.toks) (it:=C) (fun b o hb e=>hs'.extBut b o hb e) h2 h3 (.inr h1) h4 h5,rfl,(wend ys H' w).2 D hD⟩
theorem uj{i:Nat}{y:Str}{py Dv:Pos}(hc:X.calm=true)(S:aT X scope N' own ae)(hN:X.N.Nodup)(Ee:X.N[i]?=some y)(hy:Loc X.env.scope y)(hi:PI X tg iter wi)
  (hB:∀C cl fp aa s₂ H₂,PG (bb X scope N' C cl fp aa s₂ H₂) tg g/\PFs (bb X scope N' C cl fp aa s₂ H₂) ifs tt/\PE (bb X scope N' C cl fp aa s₂ H₂) elt te)
  (DZ:swapsWith (.ListComp elt [⟨tg,iter,ifs,0⟩] scope pos) (some (.Name y py)) Dv.line X.env=pure true:=by rfl)
  (hf:X.fn y=true\/X.env.scope.names.lookup y=some .local:=by first|exact .inl rfl|exact .inr rfl|assumption)
  (hs:∀x,foldedSetIterable iter X.env x=pure x:=by intro _;rfl):PS X (.Assign [.Name y py] (.ListComp elt [⟨tg,iter,ifs,0⟩] scope pos) Dv) (gc (kf wi own ae g tt te) (bW i)):=by
 intro aa s σ H Dd I h;obtain⟨cl,q1,q2,q3⟩:=mw (scope:=scope) (env:=X.env) (fun y hy hf=>I.ok.has y.1 (S.free y hy hf));rw[exec_Assign_Name_used _ _ _ _ DZ];refine Z0 (Th (Z0 ?_));show Zv _ X.A (do let _ <-comprehension (.ListComp elt [⟨tg,iter,ifs,0⟩] scope pos) scope X.env _ (newList []) false (eval iter X.env) (some (assign (.Name y py) X.env))) _ _ s
 refine Z0 (Y3 (V0 (use:=some (assign (.Name y py) X.env)) (Q:=fun _ s'=>SP X aa Dd .next s') rfl hs q1 S.kind S.names
  (thn (hi aa s σ H _ I h) fun v s1 h1=>thn h1 fun E5 s2 h2=>?_)) (fun _ s' hq=>Z6 (Z6 hq)) fun _ _ e=>e)
 obtain⟨it,fp,tn,J,H2,e,I2,T,Dp,f2,n,W,hn,w0,wend,Dg⟩:=h2;subst e;refine lZ hc S hB q2 q3 I2 T Dp f2 hn w0 Dg (fun ys H w=>(wend ys H w).1) ?_;intro D C s' oC m ys H' IC hm h1 h2 h3 h4 h5 hD w;show Zv _ X.A (assign (.Name y py) X.env (.ref D)) _ _ _;refine U5 (i9 IC hN Ee hy (v:=.ref D) rfl (fun Dh I''=>?_) hf);have pC:=I''.pin (C,oC) (Zb _ (Zb _ (Zg.mpr rfl)));have pC0:=IC.pin (C,oC) (Zb _ (Zb _ (Zg.mpr rfl)));have hm'':Dh.heap.Ns C m:=by
  obtain⟨o,es,ep,ho,r⟩:=hm;rw[pC0.1]at ho;cases ho;exact⟨oC,es,ep,pC.1,r⟩
 refine⟨m,hm'',fun h' hs'=>?_⟩;have I0:Inv X aa (σ.set i (some (.ref D))) (upd H' D (.lst ys)) Dh:=I''.unpinned;exact⟨_,_,I0.turned (t':=Dh.toks) (it:=C) (fun b o hb e=>hs'.extBut b o hb e) h2 h3 (.inr h1) h4 h5,(wend ys H' w).2 D hD⟩
end
end L2
end
section
namespace L2
open PySem PySem.Spec PyProof.Rows
section
variable{X:Cx}
theorem sd{k:Int}(h1:-(2^1000)<k)(h2:k<2^1000):VM k<=2^20:=by
 unfold VM
 split
 ·exact Nat.zero_le _
 ·have hn:k.natAbs<2^1000:=by
   have e:((2:Int)^1000)=((2^1000:Nat):Int):=by norm_cast
   rw[e]at h1 h2;lia
  have:k.natAbs.log2<1000:=by
   rcases Nat.eq_zero_or_pos k.natAbs with h0|hp
   ·rw[h0];decide
   ·exact (Nat.log2_lt (by lia)).mpr hn
  have h20:(2:Nat)^20=1048576:=by decide
  lia
noncomputable def Big(i:Int):Prop:=-(2^1000)<i/\i<2^1000
noncomputable def B7(i j:Int):Prop:=Big i/\Big j
theorem bQ:OpR X (binaryOp .Mult) (rI B7 fun i j=>.int (i*j)):=opI fun _ _ _ _ _ _ _ hc q=>mul_int q (.of_bits (sd hc.1.1 hc.1.2) (sd hc.2.1 hc.2.2))
noncomputable def xA(K:Z1)(t:TA):TE:=fun σ H Q=>t σ H fun vs H1=>∃a b xs ys,vs=[.ref a,.ref b]/\SqL K H1 a xs/\SqL K H1 b ys/\xs.length=ys.length/\
 ∀(ts:Nat->Addr) (l:Addr) (H':Hp),av H1 H'->(∀(j:Nat) x y,xs[j]?=some x->ys[j]?=some y->H' (ts j)=some (.tup [x,y]))->H' l=some (.lst ((Z4 xs.length).map fun j=>.ref (ts j)))->Q (.ref l) H'
theorem tR{n:Nat}{f:Nat->V}{acc:Array Value}(hs:acc.size=n)(h:∀j,j<n->∃u,acc[j]?=some u/\RelV (f j) u):aJ ((Z4 n).map f) acc.toList:=by
 have key:∀(l:List Value) (m k:Nat),l.length=m->(∀j,j<m->∃u,l[j]?=some u/\RelV (f (k+j)) u)->aJ ((W1 k m).map f) l:=by
  intro l
  induction l with
  |nil=>intro m k hm _;subst hm;exact .nil
  |cons u l ih=>
   intro m k hm hj;subst hm;rw[Zd,Wr,ZI];obtain⟨u',e,r⟩:=hj 0 (by simp)
   have e':u=u':=by simpa using e
   subst e';refine .cons (by simpa using r) (ih _ _ rfl fun j hj'=>?_)
   obtain⟨u2,e2,r2⟩:=hj (j+1) (by simpa using hj')
   exact⟨u2,by simpa using e2,by rw[show k+1+j=k+(j+1) by lia];exact r2⟩
 rw[Wh];refine key acc.toList n 0 (by simpa using hs) fun j hj=>?_
 obtain⟨u,e,r⟩:=h j hj;exact⟨u,by rw[Yx];exact e,by rw[Nat.zero_add];exact r⟩
theorem tQ{a b:Expr}{t:TA}{p p2 pos D6:Pos}(hc:X.calm=true)(Ef:Gl X "list")(Eg:X.mg "list" = none)(Eh:Gl X "zip")(Ei:X.mg "zip" = none)(ha:PA X [a,b] t)
  (hs:Zn [a,b] X.env=(false,eval a X.env)::Zn [b] X.env:=by rfl)(DO:(backTo D6 (Zn [b] X.env)).any (·.1)=false:=by rfl)
  (hz:Zn [.Call (.Name "zip" p2) [a,b] [] D6] X.env=[(false,eval (.Call (.Name "zip" p2) [a,b] [] D6) X.env)]:=by rfl):
  PE X (.Call (.Name "list" p) [.Call (.Name "zip" p2) [a,b] [] D6] [] pos) (xA X.K t):=by
 intro aa s σ H Q I h;refine YC (fm I Ef Eg boot_list ?_);refine ZZ ?_ hz rfl;rw[hz];show Zv _ _ (spliced ((false,eval (.Call (.Name "zip" p2) [a,b] [] D6) X.env)::[])) _ _ s;refine WG ?_;refine YC (fm I Eh Ei boot_zip ?_);refine ZZ (thn (ha D6 aa s σ H _ I h) fun us s1 zz=>?_) hs DO;obtain⟨vs,H1,I1,r1,q1⟩:=zz;obtain⟨a',b',xs,ys,rfl,hx,hy,hl,q⟩:=q1;obtain⟨u,v,rfl,ra,rb⟩:=vals2 r1;cases ra;cases rb;obtain⟨ix,rx,px,zx⟩:=I1.list hx;obtain⟨iy,ry,py,zy⟩:=I1.list hy;have lx:=rx.length;have ly:=ry.length;refine thn (FS.oA (I1.ok.hd hc) px.isList py.isList (by simp only[Z9];lia) (by simp only[Z9];lia) fun h' acc S N c kp hS hSN eS az ac=>?_) fun v s2 hv=>WR hv
 have asz:acc.size=xs.length:=by rw[az,Z9,<-lx]
 have item:∀(j:Nat) x y,xs[j]?=some x->ys[j]?=some y->∃u v,RelV x u/\RelV y v/\acc[j]?=some (.ref (N+j))/\X8 h' (N+j) u v:=by
  intro j x y ex ey;obtain⟨u,eu,ru⟩:=rx.get ex;obtain⟨v,ev,rv⟩:=ry.get ey;have hj:j<ix.toArray.size:=by rw[Z9];exact (Zh.mp eu).1
  obtain⟨x',y',e1,e2,e3,e4⟩:=ac j hj;rw[Yw,eu]at e1;rw[Yw,ev]at e2;cases e1;cases e2;exact⟨u,v,ru,rv,e3,e4⟩
 let Hn:Hp:=fun (b:Nat)=>if b=S then some (.lst ((Z4 xs.length).map fun j=>.ref (N+j))) else if N<=b/\b<N+xs.length then
  (match xs[b-N]?,ys[b-N]? with|some x,some y=>some (.tup [x,y])|_,_=>none) else H1 b
 have D_:∀b u,s1.heap.get? b=some u->Hn b=H1 b:=fun (b:Nat) u e=>by
  have:b<s1.heap.objs.size:=Zu e
  show (if b=S then _ else _)=_
  rw[if_neg (by lia),if_neg (by lia)]
 have hold:∀b u,H1 b=some u->Hn b=some u:=fun (b:Nat) u e=>by
  have:b<s1.heap.objs.size:=I1.hok.lt e
  show (if b=S then _ else _)=_
  rw[if_neg (by lia),if_neg (by lia)];exact e
 have hS':Hn S=some (.lst ((Z4 xs.length).map fun j=>.ref (N+j))):=by
  show (if S=S then _ else _)=_
  rw[if_pos rfl]
 have DB:∀(j:Nat) x y,xs[j]?=some x->ys[j]?=some y->Hn (N+j)=some (.tup [x,y]):=by
  intro j x y ex ey;have hj:j<xs.length:=(Zh.mp ex).1;show (if N+j=S then _ else _)=_
  rw[if_neg (by lia),if_pos (by lia),show N+j-N=j by lia,ex,ey]
 refine⟨.ref S,Hn,I1.grow (t':=s1.toks) kp D_ hold ?_,rfl,q (fun j=>N+j) S Hn (fun b u e=>hold b u e) DB hS'⟩;intro (b:Nat) o e;have e0:(if (b:Nat)=S then some (.lst ((Z4 xs.length).map fun j=>.ref (N+j))) else if N<=b/\b<N+xs.length then
  (match xs[(b:Nat)-N]?,ys[(b:Nat)-N]? with|some x,some y=>some (.tup [x,y])|_,_=>none) else H1 b)=some o:=e
 by_cases c1:(b:Nat)=S
 ·right;rw[if_pos c1]at e0;cases e0;refine⟨by rw[Z7,Y2];lia,acc.toList,c,tR asz fun j hj=>?_,by rw[c1];exact eS⟩
  have ex:xs[j]?=some xs[j]:=Z3 hj;have ey:ys[j]?=some (ys[j]'(by lia)):=Z3 (by lia)
  obtain⟨u,v,_,_,e3,_⟩:=item j _ _ ex ey;exact⟨_,e3,rfl⟩
 ·rw[if_neg c1]at e0;by_cases c2:N<=(b:Nat)/\(b:Nat)<N+xs.length
  ·right;rw[if_pos c2]at e0;have ex:xs[(b:Nat)-N]?=some (xs[(b:Nat)-N]'(by lia)):=Z3 (by lia)
   have ey:ys[(b:Nat)-N]?=some (ys[(b:Nat)-N]'(by lia)):=Z3 (by lia)
   rw[ex,ey]at e0;cases e0;obtain⟨u,v,ru,rv,e3,e4⟩:=item _ _ _ ex ey;rw[show N+((b:Nat)-N)=b by lia]at e4
   exact⟨by show 2<=sizeLine;decide,[u,v],.cons ru (.cons rv .nil),⟨_,e4,rfl,_,rfl⟩⟩
  ·left;rw[if_neg c2]at e0;exact e0
noncomputable def pZ(K:Z1)(t:TA):TE:=fun σ H Q=>t σ H fun vs H1=>∃a xs,vs=[.ref a]/\SqL K H1 a xs/\∀l,H1 l=none->Q (.ref l) (upd H1 l (.lst xs.reverse))
theorem yQ{xs:List V}{f':List Value}{acc:Array Value}(r:aJ xs f')(hs:acc.size=f'.length)(h:∀(j:Nat) v,acc[j]?=some v->f'[f'.length-1-j]?=some v):aJ xs.reverse acc.toList:=by
 have e:acc.toList=f'.reverse:=by
  apply XF;intro j;by_cases c:j<f'.length
  ·have hj:j<acc.size:=by lia
   have e1:=h j _ (ZX hj);rw[Yx,ZX hj,XB c,e1]
  ·rw[ZS (by rw[ZY];lia),ZS (by rw[ZA];lia)]
 rw[e];exact aJ.reverse r
theorem fN{a:Expr}{t:TA}{p p2 pos D6:Pos}(hc:X.calm=true)(Ef:Gl X "list")(Eg:X.mg "list" = none)(Eh:Gl X "reversed")(Ei:X.mg "reversed" = none)(ha:PA X [a] t)
  (hs:Zn [a] X.env=(false,eval a X.env)::Zn [] X.env:=by rfl)(DO:(backTo D6 (Zn [] X.env)).any (·.1)=false:=by rfl)
  (hz:Zn [.Call (.Name "reversed" p2) [a] [] D6] X.env=[(false,eval (.Call (.Name "reversed" p2) [a] [] D6) X.env)]:=by rfl):
  PE X (.Call (.Name "list" p) [.Call (.Name "reversed" p2) [a] [] D6] [] pos) (pZ X.K t):=by
 intro aa s σ H Q I h;refine YC (fm I Ef Eg boot_list ?_);refine ZZ ?_ hz rfl;rw[hz];show Zv _ _ (spliced ((false,eval (.Call (.Name "reversed" p2) [a] [] D6) X.env)::[])) _ _ s;refine WG ?_;refine YC (fm I Eh Ei boot_reversed ?_);refine ZZ (thn (ha D6 aa s σ H _ I h) fun us s1 zz=>?_) hs DO;obtain⟨vs,H1,I1,r1,q1⟩:=zz;obtain⟨a',xs,rfl,hx,q⟩:=q1;obtain⟨u,rfl,ra⟩:=vals1 r1;cases ra;obtain⟨ix,rx,px,zx⟩:=I1.list hx;have lx:=rx.length;have alt:a'<s1.heap.objs.size:=by obtain⟨o,ho,_⟩:=px.isList;exact Zu ho
 refine call_reversed_list px.isList (WR ?_);have kp:∀b u,s1.heap.get? b=some u->(s1.heap.push (revObj a' ((ix.toArray.size:Int)-1))).get? b=some u:=fun b u e=>Z_ _ e;refine FS.oE (s:={s1 with heap:=s1.heap.push (revObj a' ((ix.toArray.size:Int)-1))}) (I:=s1.heap.objs.size) (l:=a') (items:=ix.toArray) (I1.ok.hd hc) (Nat.ne_of_lt alt) ⟨_,Zl _ rfl,rfl,rfl⟩ (px.isList.push _) (by simp only[Z9];lia) fun h' tk acc c kp2 eS az ac=>?_
 have sz:(s1.heap.push (revObj a' ((ix.toArray.size:Int)-1))).objs.size=s1.heap.objs.size+1:=YR ..;have kept:∀b u,s1.heap.get? b=some u->h'.get? b=some u:=fun b u e=>kp2 b u (Nat.ne_of_lt (Zu e)) (kp b u e);show EP X aa σ Q (.ref (s1.heap.push (revObj a' ((ix.toArray.size:Int)-1))).objs.size) _;have eS':h'.get? (s1.heap.push (revObj a' ((ix.toArray.size:Int)-1))).objs.size=some {cls:=.type "list",dict:=none,data:=.seq acc c,slots:=#[]}:=eS;rw[sz]at eS' ⊢;have DD:H1 (s1.heap.objs.size+1)=none:=I1.hok.fresh (Nat.le_succ _);refine⟨.ref (s1.heap.objs.size+1),_,I1.laid (a:=s1.heap.objs.size+1) (o:=.lst xs.reverse) (t':=tk) kept (Nat.le_succ _) ?_,rfl,q _ DD⟩;have az':acc.size=ix.toArray.size:=az;refine⟨by rw[ZA];exact zx,acc.toList,c,yQ rx (by rw[az',Z9]) fun j v e=>?_,eS'⟩
 have:=ac j v e
 rw[Yw,Z9]at this;exact this
end
end L2
end
section
namespace L2
open PySem PySem.Spec PyProof.Rows
set_option exponentiation.threshold 2000 in
theorem zQ:((10:Int)^100)<2^1000:=by decide +kernel
theorem bv{i:Int}(h1:-(10^100)<=i)(h2:i<=10^100):Big i:=by
 have:=zQ
 unfold Big;generalize (2:Int)^1000=z at *
 generalize (10:Int)^100=y at *
 lia
section
variable{X:Cx}
noncomputable def uT(a:Addr)(n:Nat):HO:=.ext fun h=>∃o es ep t,h.get? a=some o/\o.ExactSet/\o.data=.set es ep t/\t.fits es.size=true/\es.size=n/\n<=14
theorem Ao{aa:List (Addr×Obj)}{σ:St}{H:Hp}{s:Shared}{a:Addr}{x y:Int}(I:Inv X aa σ H s)(h:H a=some (.tup [.int x,.int y])):Y0 (YE X.prog X.w) s.heap [x,y] a:=by
 obtain⟨_,f',r,o,ho,hc,n,hd⟩:=I.hok a _ h;cases r with
 |cons r1 r=>
  cases r with
  |cons r2 r=>
   cases r;obtain⟨t1,rfl⟩:=r1;obtain⟨t2,rfl⟩:=r2;exact⟨o,_,n,ho,hc,hd,.cons (intKind_is _ _ _ _) (.cons (intKind_is _ _ _ _) .nil)⟩
theorem qu(hc:X.calm=true)(hu:X.A.units+20<cLine):cZ X (.type "set") (fun xs H Q=>∃(p:Addr) (rf:Nat->Addr) (px py:Nat->Int) (n:Nat),xs=[.ref p]/\SqL X.K H p ((Z4 n).map fun i=>.ref (rf i))/\n<=14/\
  (∀i,i<n->H (rf i)=some (.tup [.int (px i),.int (py i)]))/\∀l,H l=none->Q (.ref l) (upd H l (uT l (FS.dN (fun i=>[px i,py i]) n)))):=by
 intro aa s σ H xs us Q I r h;obtain⟨p,rf,px,py,n,rfl,hq,hn,ht,q⟩:=h;obtain⟨u,rfl,ra⟩:=vals1 r;cases ra;obtain⟨f',rv,pl,hz⟩:=I.list hq;have hl:=rv.length;rw[Z7,Y2]at hl;have sz:f'.toArray.size=n:=by rw[Z9];lia
 refine FS.lS (key:=fun i=>[px i,py i]) (rf:=rf) (I.ok.hd hc) hu pl.isList (by lia) ?_ ?_ ?_
 ·intro i v e;rw[Yw]at e;have hi:i<n:=by have:=(Zh.mp e).1;lia
  have e1:((Z4 n).map fun i=>V.ref (rf i))[i]?=some (.ref (rf i)):=by rw[Zj,YY hi];rfl
  obtain⟨u,eu,ru⟩:=rv.get e1;rw[e]at eu;cases eu;exact ru
 ·intro i hi;exact Ao I (ht i (by lia))
 ·intro h' tk hH kp;have kept:∀b o,s.heap.get? b=some o->h'.get? b=some o:=fun b o e=>kp b o (Zu e) e;have hf:H s.heap.objs.size=none:=I.hok.fresh (Nat.le_refl _);refine⟨.ref s.heap.objs.size,_,I.laid (o:=uT s.heap.objs.size (FS.dN (fun i=>[px i,py i]) n)) (t':=tk) kept (Nat.le_refl _) ?_,rfl,q _ hf⟩;obtain⟨o,es,ep,t,T,_,hsz,_⟩:=hH;rw[sz]at hsz;have dl:=FS.iX (fun i=>[px i,py i]) n;refine⟨⟨o,es,ep,t,T.ho,T.ex,T.hd,T.fits,hsz,by lia⟩,⟨o,T.ho⟩,?_⟩
  rintro h1 h2 ⟨o,es,ep,t,e,r⟩ k;exact⟨o,es,ep,t,k o e,r⟩
theorem ot:cZ X (.builtin "len") (fun xs H Q=>∃p n,xs=[.ref p]/\H p=some (uT p n)/\Q (.int n) H):=by
 intro aa s σ H xs us Q I r h;obtain⟨p,n,rfl,hp,q⟩:=h;obtain⟨u,rfl,ra⟩:=vals1 r;cases ra;obtain⟨⟨o,es,ep,t,e,ex,hd,hf,hs,hn⟩,_⟩:=I.hok p _ hp;refine call_len_set e ex hd hf (by lia) ?_
 rw[hs];exact⟨.int n,H,I.tok _,⟨_,rfl⟩,q⟩
theorem jJ{aa:List (Addr×Obj)}{σ:St}{H:Hp}{s:Shared}{p:Addr}{f':List Value}(I:Inv X aa σ H s)(pl:PlainL s.heap p f'.toArray)(hc:X.calm=true):
  (Walks X.prog X.w X.A.in1 s.heap.objs.size [s.heap.objs.size,p] [s.heap.objs.size] f'.toArray.size (fun i v=>f'.toArray[i]?=some v) (fun i h=>h.IsListIter s.heap.objs.size p i/\h.IsList p f'.toArray)):=by
 have C_:p<s.heap.objs.size:=by obtain⟨o,ho,_⟩:=pl.isList;exact Zu ho
 exact Walks.list (show X.A.in1.handled=none from I.ok.hd hc) s.heap.objs.size p (Nat.ne_of_lt C_) f'.toArray
noncomputable def ig:List Int->Int
 | []=>0
 |x::r=>x+ig r
theorem kE(val:Nat->Int):∀(ns:List Int) (k:Nat),(∀(i:Nat) v,ns[i]?=some v->val (k+i)=v)->preSum val (k+ns.length)=preSum val k+ig ns
 | [],k,_=>by simp[ig]
 |x::r,k,h=>by
  have h0:val k=x:=h 0 x rfl;have ih:=kE val r (k+1) fun i v e=>by rw[show k+1+i=k+(i+1) by lia];exact h (i+1) v e
  rw[Zd,show k+(r.length+1)=k+1+r.length by lia,ih]
  show preSum val k+val k+ig r=preSum val k+(x+ig r);rw[h0];lia
theorem oz(hc:X.calm=true):cZ X (.builtin "sum") (fun xs H Q=>∃(p:Addr) (ns:List Int),xs=[.ref p]/\SqL X.K H p (ns.map V.int)/\Q (.int (ig ns)) H):=by
 intro aa s σ H xs us Q I r h;obtain⟨p,ns,rfl,hq,q⟩:=h;obtain⟨u,rfl,ra⟩:=vals1 r;cases ra;obtain⟨f',rv,pl,hz⟩:=I.list hq;have hl:=rv.length;rw[Z7]at hl;have val:∀(i:Nat) v,f'.toArray[i]?=some v->∃t,v=.int (ns.getD i 0) t:=by
  intro i v e;rw[Yw]at e;have hi:i<ns.length:=by have:=(Zh.mp e).1;lia
  obtain⟨u,eu,ru⟩:=rv.get (i:=i) (x:=.int ns[i]) (by rw[Zj,Z3 hi];rfl)
  rw[e]at eu;cases eu;obtain⟨t,rfl⟩:=ru;exact⟨t,by rw[Z2,Z3 hi];rfl⟩
 refine call_sum_walkG (XC pl.isList ?_);refine⟨s.heap.objs.size,_,_,_,_,_,fun i=>ns.getD i 0,rfl,jJ I pl hc,⟨⟨_,Zl _ rfl,rfl,rfl⟩,pl.isList.push _⟩,fun b hb=>?_,val,fun h' tk t' kp=>?_⟩
 ·have C_:p<s.heap.objs.size:=by obtain⟨o,ho,_⟩:=pl.isList;exact Zu ho
  show b<(s.heap.push _).objs.size;rw[YR];simp only[Zx,Zr,or_false]at hb;rcases hb with rfl|rfl
  ·exact Nat.lt_succ_self _
  ·exact Nat.lt_succ_of_lt C_
 ·have e:preSum (fun i=>ns.getD i 0) f'.toArray.size=ig ns:=by
   have:=kE (fun i=>ns.getD i 0) ns 0 fun i v e=>by rw[Nat.zero_add,Z2,e];rfl
   rw[Z9,<-hl];simpa [preSum]using this
  rw[e];exact⟨.int (ig ns),H,I.kept fun b o eb=>kp b o (by simp only[Zx,Zr,or_false];exact Nat.ne_of_lt (Zu eb)) (Z_ _ eb),⟨_,rfl⟩,q⟩
theorem mL(hc:X.calm=true):cZ X (.builtin "any") (fun xs H Q=>∃(p:Addr) (bs:List Bool),xs=[.ref p]/\SqL X.K H p (bs.map V.bl)/\Q (.bl (bs.any id)) H):=by
 intro aa s σ H xs us Q I r h;obtain⟨p,bs,rfl,hq,q⟩:=h;obtain⟨u,rfl,ra⟩:=vals1 r;cases ra;obtain⟨f',rv,pl,hz⟩:=I.list hq;have hl:=rv.length;rw[Z7]at hl;refine call_any_walk (XC pl.isList ?_);refine⟨s.heap.objs.size,_,_,_,_,_,fun i=>bs.getD i false,rfl,jJ I pl hc,⟨⟨_,Zl _ rfl,rfl,rfl⟩,pl.isList.push _⟩,fun i v s' Q' E' e hq'=>?_,fun h' tk kp=>?_⟩
 ·have e:f'.toArray[i]?=some v:=e;rw[Yw]at e;have hi:i<bs.length:=by have:=(Zh.mp e).1;lia
  obtain⟨u,eu,ru⟩:=rv.get (i:=i) (x:=.bl bs[i]) (by rw[Zj,Z3 hi];rfl)
  rw[e]at eu;cases eu;cases ru;refine Ye ?_
  have:bs.getD i false=bs[i]:=by rw[Z2,Z3 hi];rfl
  rw[<-this];exact hq'
 ·have e:(Z4 f'.toArray.size).any (fun i=>bs.getD i false)=bs.any id:=by
   rw[Z9,<-hl,ZP,YD,YD];constructor
   ·rintro⟨i,hi,e⟩;have hi:=Zt.mp hi;rw[Z2,Z3 hi]at e;exact⟨bs[i],XN hi,e⟩
   ·rintro⟨b,hb,e⟩;obtain⟨i,hi,rfl⟩:=Yv hb;exact⟨i,Zt.mpr hi,by rw[Z2,Z3 hi];exact e⟩
  rw[e];exact⟨.bl (bs.any id),H,I.kept fun b o eb=>kp b o (by simp only[Zx,Zr,or_false];exact Nat.ne_of_lt (Zu eb)) (Z_ _ eb),rfl,q⟩
theorem d_{T:String}:cZ X (.builtin "isinstance") (fun xs H Q=>∃x t b,xs=[x,.ty T]/\f_ X.K H x t/\Y7 X.K t (.type T)=some b/\Q (.bl b) H):=by
 intro aa s σ H xs us Q I r h;obtain⟨x,t,b,rfl,ty,e,q⟩:=h;obtain⟨u,v,rfl,ra,rb⟩:=vals2 r;cases rb;exact v9 I ra ty e fun tk=>⟨.bl b,H,I.tok _,rfl,q⟩
inductive Cmp(K:Z1)(H:Hp):V->V->Bool->Prop
 |flat {x y:V}:oK x=true->oK y=true->Cmp K H x y (eqV x y)
 |pt {a b:Addr} {x y x' y':Int}:SqT K H a [.int x,.int y]->SqT K H b [.int x',.int y']->Cmp K H (.ref a) (.ref b) (decide (x=x'/\y=y'))
theorem Cmp.at{aa:List (Addr×Obj)}{σ:St}{H:Hp}{s:Shared}{x y:V}{b:Bool}{u v:Value}{A:ZT}(I:Inv X aa σ H s)(c:Cmp X.K H x y b)(rx:RelV x u)(ry:RelV y v)(hu:A.units+1<cLine):SeqAt.EqAt A s u v b:=by
 cases c with
 |flat f1 f2=>exact Br rx ry f1 f2
 | @pt a b x y x' y' h1 h2=>
  cases rx;cases ry;by_cases hab:a=b
  ·subst hab
   have:=I.tuple_inj h1 h2
   simp only[Xd,V.int.injEq,and_true]at this;rw[Zo (p:=x=x'/\y=y') this];exact Uf _
  ·refine SeqAt.EqAt.of_refs hab ?_;obtain⟨i1,r1,p1,_⟩:=I.tuple h1;obtain⟨i2,r2,p2,_⟩:=I.tuple h2;cases r1 with
   |cons r1 t1=>
    cases t1 with
    |cons r1' t1=>
     cases t1;cases r2 with
     |cons r2 t2=>
      cases t2 with
      |cons r2' t2=>
       cases t2;obtain⟨k1,rfl⟩:=r1;obtain⟨k1',rfl⟩:=r1';obtain⟨k2,rfl⟩:=r2;obtain⟨k2',rfl⟩:=r2'
       have:=SeqAt.RcAt.tuples (A:=A) (s:=s) (e:=fun j=>if j=0 then x==x' else y==y') (show s.heap.IsTuple a _ from p1) (show s.heap.IsTuple b _ from p2) (by lia) fun j j1 j2=>by
        match j,j1 with
        |0,_=>exact Xl x k1 x' k2
        |1,_=>exact Xl y k1' y' k2'
       have e:((Z4 (min (#[Value.int x k1,Value.int y k1']:Array Value).size (#[Value.int x' k2,Value.int y' k2']:Array Value).size)).all (fun j=>if j=0 then x==x' else y==y')&&(#[Value.int x k1,Value.int y k1']:Array Value).size==(#[Value.int x' k2,Value.int y' k2']:Array Value).size)=decide (x=x'/\y=y'):=by
        show ((Z4 2).all (fun j=>if j=0 then x==x' else y==y')&&true)=_
        rw[XX];show ((x==x')&&((y==y')&&true))=_;rw[XX,ZP];simp
       rw[e]at this;exact this
noncomputable def BZ(K:Z1)(neg:Bool):R2:=fun x y H Q=>∃a b xs ys,x=.ref a/\y=.ref b/\SqL K H a xs/\SqL K H b ys/\
 ((xs.length≠ys.length/\Q (.bl neg) H)\/(xs.length=ys.length/\∃e:Nat->Bool,(∀(j:Nat) x y,xs[j]?=some x->ys[j]?=some y->Cmp K H x y (e j))/\Q (.bl (if neg then !(Z4 xs.length).all e else (Z4 xs.length).all e)) H))
theorem pQ(hu:X.A.units+5<cLine):OpR X (compareOp .Eq) (BZ X.K false):=by
 intro aa s σ H x y v u Q I rx ry h;obtain⟨a,b,xs,ys,rfl,rfl,h1,h2,h⟩:=h;cases rx;cases ry;obtain⟨i1,r1,p1,_⟩:=I.list h1;obtain⟨i2,r2,p2,_⟩:=I.list h2;have l1:=r1.length;have l2:=r2.length;rcases h with ⟨hn,q⟩|⟨he,e,hc,q⟩
 ·exact SeqAt.eq_list_lengthsAt p1.isList p2.isList (by simp only[Z9,bne_iff_ne];lia) (by lia) ⟨.bl false,H,I,rfl,q⟩
 ·refine SeqAt.eq_listAt (e:=e) p1.isList p2.isList (by simp only[Z9];lia) (by lia) (fun j j1 j2=>?_) ⟨.bl ((Z4 xs.length).all e),H,I,?_,q⟩
  ·have j1':j<i1.length:=by simpa using j1
   have j2':j<i2.length:=by simpa using j2
   obtain⟨u,eu,ru⟩:=r1.get (i:=j) (x:=xs[j]'(by lia)) (Z3 _)
   obtain⟨v,ev,rv⟩:=r2.get (i:=j) (x:=ys[j]'(by lia)) (Z3 _)
   rw[Z3 j1']at eu;rw[Z3 j2']at ev;cases eu;cases ev
   have:=(hc j _ _ (Z3 (by lia)) (Z3 (by lia))).at I ru rv (A:=X.A.in1) (by show X.A.units+1+1<cLine;lia)
   simpa using this
  ·rw[Z9,<-l1];rfl
theorem Bt(hu:X.A.units+5<cLine):OpR X (compareOp .NotEq) (BZ X.K true):=by
 intro aa s σ H x y v u Q I rx ry h;obtain⟨a,b,xs,ys,rfl,rfl,h1,h2,h⟩:=h;cases rx;cases ry;obtain⟨i1,r1,p1,_⟩:=I.list h1;obtain⟨i2,r2,p2,_⟩:=I.list h2;have l1:=r1.length;have l2:=r2.length;rcases h with ⟨hn,q⟩|⟨he,e,hc,q⟩
 ·exact UM p1.isList p2.isList (by simp only[Z9,bne_iff_ne];lia) (by lia) _ _ _ _ ⟨.bl true,H,I,rfl,q⟩
 ·refine SeqAt.RcNeAt.lists (e:=e) p1.isList p2.isList (by simp only[Z9];lia) (by lia) (fun j j1 j2=>?_) _ _ _ _ ⟨.bl (!(Z4 xs.length).all e),H,I,?_,q⟩
  ·have j1':j<i1.length:=by simpa using j1
   have j2':j<i2.length:=by simpa using j2
   obtain⟨u,eu,ru⟩:=r1.get (i:=j) (x:=xs[j]'(by lia)) (Z3 _)
   obtain⟨v,ev,rv⟩:=r2.get (i:=j) (x:=ys[j]'(by lia)) (Z3 _)
   rw[Z3 j1']at eu;rw[Z3 j2']at ev;cases eu;cases ev
   have:=(hc j _ _ (Z3 (by lia)) (Z3 (by lia))).at I ru rv (A:=X.A.in1) (by show X.A.units+1+1<cLine;lia)
   simpa using this
  ·rw[Z9,<-l1];rfl
end
noncomputable def Ite(K:Z1)(a:Addr):It:=
 ⟨fun i H=>∃xs x,SqL K H a xs/\xs[i]?=some x,fun i H x H'=>∃T v,x=.ref T/\H T=none/\H'=upd H T (.tup [.int i,v])/\∀xs,SqL K H a xs->xs[i]?=some v,fun i H=>∃xs,SqL K H a xs/\xs.length<=i⟩
theorem vT{P:Zy}{w:Zm}{K:Z1}{es:List Expr}{k:Nat}{pos:Pos}(a e it:Addr)(D':e≠it):
  mP P w K (.Tuple es k pos) (Ite K a) [e,it] e (fun i h=>h.IsListIter it a i/\∃old,IsEnum h e it i old) where
 mem:=by simp
 obj:=fun i h st b hb=>by
  obtain⟨⟨o,ho,hc,hd⟩,old,he⟩:=st;simp only[Zx,Zr,or_false]at hb;rcases hb with rfl|rfl
  ·exact⟨_,he,fun v z=>by cases z⟩
  ·exact⟨o,ho,fun v z=>by rw[hd]at z;cases z⟩
 keep:=fun i h h' st k=>⟨st.1.at fun o e'=>k it (by simp) o e',st.2.imp fun old he=>k e (by simp) _ he⟩
 item:=by
  intro X hP hw hK hc i aa s σ H E I hf st hg;subst hP hw hK;obtain⟨xs,x,hq,hx⟩:=hg;obtain⟨hit,old,he⟩:=st;obtain⟨f',rv,p,hz⟩:=I.list hq;obtain⟨u,hu,ru⟩:=rv.get hx;obtain⟨f0,f1,f2,f3,f4,f5⟩:=hf e (by simp)
  obtain⟨g0,g1,g2,g3,g4,g5⟩:=hf it (by simp)
  refine wpAny_pyNext_enum_item he hit p.isList (x:=u) (by simpa using hu) D' fun h' a1 a2 a3 a4 a5=>?_
  refine⟨_,rfl,?_⟩;refine wpAny_letOwnedTupleGo_enum a1 fun h'' b1 b2=>?_;have elt:e<s.heap.objs.size:=Zu he;have a3':h''.get? s.heap.objs.size=some {cls:=.type "tuple",data:=.seq #[.int i s.toks,u]}:=b2.extBut _ _ (Nat.ne_of_gt elt) a3;have DD:H s.heap.objs.size=none:=I.hok.fresh (Nat.le_refl _);have nT:∀b ob,H b=some ob->b≠e/\b≠it:=fun b ob q=>⟨fun z=>(by rw[z,f0]at q;cases q),fun z=>(by rw[z,g0]at q;cases q)⟩
  have kp:∀b o,b∉[e,it]->s.heap.get? b=some o->h''.get? b=some o:=fun b o hb q=>by
   simp only[Zx,Zr,or_false,not_or]at hb;exact b2.extBut b o hb.1 (a5 b o hb.1 hb.2 q)
  have okT:bh X.prog X.w (upd H s.heap.objs.size (.tup [.int i,x])) h'' s.heap.objs.size (.tup [.int i,x]):=
   ⟨by show 2<=sizeLine;decide,[.int i s.toks,u],.cons ⟨_,rfl⟩ (.cons ru .nil),⟨_,a3',rfl,_,rfl⟩⟩
  have hokT:HOk X.prog X.w (upd H s.heap.objs.size (.tup [.int i,x])) h'':=fun b o q=>by
   by_cases hb:b=s.heap.objs.size
   ·subst hb;rw[ah]at q;cases q;exact okT
   ·rw[aG hb]at q;refine (I.hok b o q).stay (fun c v hc' z=>kp c v ?_ z) (fun c z=>by rw[aG (a8 z DD)];exact z) fun c xs z=>by rw[aG (a8 z DD)];exact z
    simp only[Zx,Zr,or_false,not_or];rcases hc' with rfl|hc'
    ·exact nT _ _ q
    ·exact nT _ _ hc'
  have I1:Inv X aa σ (upd H s.heap.objs.size (.tup [.int i,x])) {s with heap:=h'',toks:=s.toks+1}:=by
   refine I.step (g':=s.gens) (d':=s.drawn) (ch:=[e,it]) (fun b hb=>?_) (fun b o _ _ hc' q _=>kp b o hc' q) (fun b o _ _ hc' q _=>⟨o.slots,kp b o hc' q⟩) (fun b o hc' q n=>?_) (fun b o hc' q=>⟨o,kp b o hc' q⟩)
    (fun b xs q=>by rw[aG (a8 q DD)];exact q) (fun b o u q=>by rw[aG (a8 q DD)];exact q) (fun b ps q=>⟨#[],by rw[aG (a8 q DD),q];simp⟩) (fun m hm=>?_) hokT I.bare
   ·simp only[Zx,Zr,or_false]at hb;rcases hb with rfl|rfl
    ·exact⟨f3,f1,f4,f5⟩
    ·exact⟨g3,g1,g4,g5⟩
   ·rw[aG (Nat.ne_of_lt (Zu q))];exact n
   ·obtain⟨o,C',ep,ho,r⟩:=hm;exact⟨o,C',ep,kp _ o (by simp only[Zx,Zr,or_false,not_or];exact⟨Ne.symm f1,Ne.symm g1⟩) ho,r⟩
  refine⟨.ref s.heap.objs.size,_,I1,rfl,⟨_,x,rfl,DD,rfl,fun ys hy=>by rw[I.list_inj hy hq];exact hx⟩,⟨a2.extBut b2.extBut (Ne.symm D'),u,by simpa using b1⟩,fun b hb=>?_⟩
  have hb':b<s.heap.objs.size:=by
   simp only[Zx,Zr,or_false]at hb;rcases hb with rfl|rfl
   ·exact elt
   ·obtain⟨o,ho,_⟩:=hit;exact Zu ho
  rw[aG (Nat.ne_of_lt hb')];exact (hf b hb).1
 done:=by
  intro X hP hw hK hc i aa s σ H E I hf st hg;subst hP hw hK;obtain⟨xs,hq,hx⟩:=hg;obtain⟨hit,old,he⟩:=st;obtain⟨f',rv,p,hz⟩:=I.list hq;obtain⟨g0,g1,g2,g3,g4,g5⟩:=hf it (by simp)
  have hl:=rv.length;exact wpAny_pyNext_enum_end (I.ok.hd hc) he hit p.isList (by simp;lia) fun h' eb=>⟨rfl,I.turned (t':=s.toks) (fun b o hb e=>eb b o hb e) g0 g1 g3 g4 g5⟩
 self:=fun _ _ _ _ _ st h=>by
  obtain⟨_,old,he⟩:=st;exact Uv he h
section
variable{X:Cx}
noncomputable def CO(K:Z1)(ta:TA):TI:=fun σ H R=>ta σ H fun vs H1=>∃a,vs=[.ref a]/\(∃xs,SqL K H1 a xs)/\R (Ite K a) H1
theorem AM{es:List Expr}{k:Nat}{DE:Pos}{l:Expr}{ta:TA}{p pos:Pos}(hg:Gl X "enumerate")(hm:X.mg "enumerate" = none)(ha:PA X [l] ta)(hs:Zn [l] X.env=(false,eval l X.env)::Zn [] X.env:=by rfl):
  PI X (.Tuple es k DE) (.Call (.Name "enumerate" p) [l] [] pos) (CO X.K ta):=by
 intro aa s σ H R I h;refine Call_ (fm I hg hm boot_enumerate (ZZ (thn (ha pos aa s σ H _ I h) fun us s1 zz=>?_) hs rfl));obtain⟨vs,H1,I1,r1,q1⟩:=zz;obtain⟨a,rfl,⟨xs,hq⟩,q⟩:=q1;obtain⟨u,rfl,ra⟩:=vals1 r1;cases ra;obtain⟨f',rv,pl,hz⟩:=I1.list hq;refine call_enumerate_list pl.isList fun h' a1 a2 a3 a4=>?_;refine Uv a1 ?_;have I2:Inv X aa σ H1 {s1 with heap:=h'}:=I1.kept (t':=s1.toks) a4
 refine⟨s1.heap.objs.size+1,[s1.heap.objs.size+1,s1.heap.objs.size],_,_,H1,rfl,I2,vT a _ _ (Nat.succ_ne_self _),⟨a2,.none,by simpa using a1⟩,fun b hb=>?_,q⟩
 simp only[Zx,Zr,or_false]at hb;rcases hb with rfl|rfl
 ·exact I1.fpOk (Nat.le_succ _) (I1.hok.fresh (Nat.le_succ _))
 ·exact I1.fpOk (Nat.le_refl _) (I1.hok.fresh (Nat.le_refl _))
end
end L2
end
section
namespace FF
noncomputable abbrev Pt:=Int×Int
noncomputable def turn(a b p:Pt):Int:=(b.1-a.1)*(p.2-a.2)-(b.2-a.2)*(p.1-a.1)
noncomputable def ba(a b c d:Pt):Prop:=∃u v s t:Int,0<=u/\0<=v/\0<=s/\0<=t/\0<u+v/\u+v=s+t/\
 u*a.1+v*b.1=s*c.1+t*d.1/\u*a.2+v*b.2=s*c.2+t*d.2
noncomputable def Back(a c b:Pt):Prop:=∃s t:Int,0<s/\0<t/\s*(a.1-c.1)=t*(b.1-c.1)/\s*(a.2-c.2)=t*(b.2-c.2)
noncomputable def On(a b c:Pt):Prop:=∃u v:Int,0<=u/\0<=v/\0<u+v/\u*a.1+v*b.1=(u+v)*c.1/\u*a.2+v*b.2=(u+v)*c.2
theorem dh{k x:Int}(hk:0<k)(h:0<=k*x):0<=x:=by
 apply Zz;intro hx
 have:=Int.mul_neg_of_pos_of_neg hk (show x<0 by lia)
 lia
theorem bC{k x:Int}(hk:0<k)(h:0<k*x):0<x:=by
 apply Zz;intro hx
 have:k*x<=0:=by
  have:=Int.mul_nonneg (Int.le_of_lt hk) (show 0<=-x by lia)
  have e:k*-x=-(k*x):=by grind
  lia
 lia
theorem bw{k x:Int}(hk:0<k)(h:k*x=0):x=0:=by
 rcases Int.mul_eq_zero.mp h with h|h<;>lia
theorem jK(x:Int):0<=x*x:=by
 rcases Int.le_total 0 x with h|h
 ·exact Int.mul_nonneg h h
 ·have:=Int.mul_nonneg (show 0<=-x by lia) (show 0<=-x by lia)
  have e:-x*-x=x*x:=by grind
  lia
theorem wj{x:Int}(h:x≠0):0<x*x:=by
 have h1:=jK x;have h2:x*x≠0:=fun e=>by rcases Int.mul_eq_zero.mp e with h3|h3<;>exact h h3
 omega
theorem pL{x y:Int}(h:¬(x=0/\y=0)):0<x*x+y*y:=by
 have h1:=jK x;have h2:=jK y;by_cases hx:x=0
 ·have hy:y≠0:=fun e=>h ⟨hx,e⟩
  have:=wj hy
  lia
 ·have:=wj hx
  lia
theorem On.turn{a b c:Pt}(h:On a b c):FF.turn a b c=0:=by
 obtain⟨u,v,hu,hv,hp,e1,e2⟩:=h;apply bw hp;unfold FF.turn;grind
theorem On.btw1{a b c:Pt}(h:On a b c):(a.1<=c.1/\c.1<=b.1)\/(b.1<=c.1/\c.1<=a.1):=by
 obtain⟨u,v,hu,hv,hp,e1,e2⟩:=h;have e3:(u+v)*(c.1-a.1)=v*(b.1-a.1):=by grind
 have e4:(u+v)*(b.1-c.1)=u*(b.1-a.1):=by grind
 have e5:(u+v)*(a.1-c.1)=v*(a.1-b.1):=by grind
 have e6:(u+v)*(c.1-b.1)=u*(a.1-b.1):=by grind
 rcases Int.le_total a.1 b.1 with h|h
 ·left;have h3:=dh hp (e3 ▸ Int.mul_nonneg hv (by lia))
  have h4:=dh hp (e4 ▸ Int.mul_nonneg hu (by lia))
  lia
 ·right;have h3:=dh hp (e5 ▸ Int.mul_nonneg hv (by lia))
  have h4:=dh hp (e6 ▸ Int.mul_nonneg hu (by lia))
  lia
theorem On.flip{a b c:Pt}(h:On a b c):On (a.2,a.1) (b.2,b.1) (c.2,c.1):=by
 obtain⟨u,v,hu,hv,hp,e1,e2⟩:=h;exact⟨u,v,hu,hv,hp,e2,e1⟩
theorem On.btw2{a b c:Pt}(h:On a b c):(a.2<=c.2/\c.2<=b.2)\/(b.2<=c.2/\c.2<=a.2):=h.flip.btw1
theorem uy{a b c:Pt}(ht:FF.turn a b c=0)(h1:(a.1<=c.1/\c.1<=b.1)\/(b.1<=c.1/\c.1<=a.1))
  (h2:(a.2<=c.2/\c.2<=b.2)\/(b.2<=c.2/\c.2<=a.2)):On a b c:=by
 unfold FF.turn at ht;by_cases hx:a.1=b.1
 ·by_cases hy:a.2=b.2
  ·refine⟨1,0,by lia,by lia,by lia,?_,?_⟩<;>lia
  ·rcases h2 with h2|h2
   ·exact⟨b.2-c.2,c.2-a.2,by lia,by lia,by lia,by grind,by grind⟩
   ·exact⟨c.2-b.2,a.2-c.2,by lia,by lia,by lia,by grind,by grind⟩
 ·rcases h1 with h1|h1
  ·exact⟨b.1-c.1,c.1-a.1,by lia,by lia,by lia,by grind,by grind⟩
  ·exact⟨c.1-b.1,a.1-c.1,by lia,by lia,by lia,by grind,by grind⟩
theorem ba.symm{a b c d:Pt}(h:ba a b c d):ba c d a b:=by
 obtain⟨u,v,s,t,hu,hv,hs,ht,hp,he,e1,e2⟩:=h;exact⟨s,t,u,v,hs,ht,hu,hv,by lia,by lia,e1.symm,e2.symm⟩
theorem ba.swap1{a b c d:Pt}(h:ba a b c d):ba b a c d:=by
 obtain⟨u,v,s,t,hu,hv,hs,ht,hp,he,e1,e2⟩:=h;exact⟨v,u,s,t,hv,hu,hs,ht,by lia,by lia,by lia,by lia⟩
theorem ba.swap2{a b c d:Pt}(h:ba a b c d):ba a b d c:=h.symm.swap1.symm
theorem On.meet1{a b c d:Pt}(h:On a b c):ba a b c d:=by
 obtain⟨u,v,hu,hv,hp,e1,e2⟩:=h;exact⟨u,v,u+v,0,hu,hv,by lia,by lia,hp,by lia,by rw[e1];lia,by rw[e2];lia⟩
theorem On.meet2{a b c d:Pt}(h:On a b d):ba a b c d:=h.meet1.swap2
theorem On.meet3{a b c d:Pt}(h:On c d a):ba a b c d:=h.meet1.symm
theorem On.meet4{a b c d:Pt}(h:On c d b):ba a b c d:=h.meet1.symm.swap1
theorem opp{x y:Int}(h:x*y<0):(x<0/\0<y)\/(0<x/\y<0):=by
 rcases Int.lt_trichotomy x 0 with hx|hx|hx
 ·left;refine⟨hx,?_⟩;apply Zz;intro hy
  have:=Int.mul_nonneg (show 0<=-x by lia) (show 0<=-y by lia)
  have e:-x*-y=x*y:=by grind
  lia
 ·subst hx;lia
 ·right;refine⟨hx,?_⟩;apply Zz;intro hy
  have:=Int.mul_nonneg (show 0<=x by lia) (show 0<=y by lia)
  lia
theorem BA{x y:Int}(h:(x<0/\0<y)\/(0<x/\y<0)):x*y<0:=by
 rcases h with ⟨h1,h2⟩|⟨h1,h2⟩
 ·exact Int.mul_neg_of_neg_of_pos h1 h2
 ·exact Int.mul_neg_of_pos_of_neg h1 h2
theorem oy{a b c d:Pt}(h1:FF.turn a b c*FF.turn a b d<0)(h2:FF.turn c d a*FF.turn c d b<0):ba a b c d:=by
 have e0:FF.turn a b d-FF.turn a b c=FF.turn c d a-FF.turn c d b:=by unfold FF.turn;grind
 have e1:FF.turn a b d*c.1-FF.turn a b c*d.1=FF.turn c d a*b.1-FF.turn c d b*a.1:=by unfold FF.turn;grind
 have e2:FF.turn a b d*c.2-FF.turn a b c*d.2=FF.turn c d a*b.2-FF.turn c d b*a.2:=by unfold FF.turn;grind
 generalize FF.turn a b d=T2 at *
 generalize FF.turn a b c=T1 at *
 generalize FF.turn c d a=S1 at *
 generalize FF.turn c d b=S2 at *
 rcases opp h1 with q1|q1
 ·rcases opp h2 with q2|q2
  ·lia
  ·refine⟨-S2,S1,T2,-T1,by lia,by lia,by lia,by lia,by lia,by lia,?_,?_⟩<;>grind
 ·rcases opp h2 with q2|q2
  ·refine⟨S2,-S1,-T2,T1,by lia,by lia,by lia,by lia,by lia,by lia,?_,?_⟩<;>grind
  ·lia
theorem Az{s t u v fc fd l:Int}(mf:s*fc+t*fd=v*l)(he:u+v=s+t):s*(fc-l)+t*(fd-l)+u*l=0:=by
 have e:v=s+t-u:=by lia
 subst e;grind
theorem BI{w1 w2 p1 p2 q1 q2:Int}(pq:p1*q2=p2*q1):
  (w1*q1+w2*q2)*p1=(w1*p1+w2*p2)*q1/\(w1*q1+w2*q2)*p2=(w1*p1+w2*p2)*q2:=by
 constructor<;>grind
theorem tW{a b c d:Pt}(h:ba a b c d):On a b c\/On a b d\/On c d a\/On c d b\/
  (FF.turn a b c*FF.turn a b d<0/\FF.turn c d a*FF.turn c d b<0):=by
 obtain⟨u,v,s,t,hu,hv,hs,ht,hp,he,e1,e2⟩:=h;have k1:s*FF.turn a b c+t*FF.turn a b d=0:=by unfold FF.turn;grind
 have k2:u*FF.turn c d a+v*FF.turn c d b=0:=by unfold FF.turn;grind
 have e0:FF.turn a b d-FF.turn a b c=FF.turn c d a-FF.turn c d b:=by unfold FF.turn;grind
 by_cases z1:FF.turn a b c=0
 ·by_cases z2:FF.turn a b d=0
  ·
   by_cases hab:a.1-b.1=0/\a.2-b.2=0
   ·refine .inr (.inr (.inl ⟨s,t,hs,ht,by lia,?_,?_⟩))<;>grind
   ·have L:=pL hab;unfold FF.turn at z1 z2;have pq:(c.1-a.1)*(d.2-a.2)=(c.2-a.2)*(d.1-a.1):=by
     have:((a.1-b.1)*(a.1-b.1)+(a.2-b.2)*(a.2-b.2))*((c.1-a.1)*(d.2-a.2)-(c.2-a.2)*(d.1-a.1))=0:=by grind
     have:=bw L this
     lia
    have mf:s*((b.1-a.1)*(c.1-a.1)+(b.2-a.2)*(c.2-a.2))+t*((b.1-a.1)*(d.1-a.1)+(b.2-a.2)*(d.2-a.2))
      = v*((a.1-b.1)*(a.1-b.1)+(a.2-b.2)*(a.2-b.2)):=by grind
    have wc:On a b c\/((b.1-a.1)*(c.1-a.1)+(b.2-a.2)*(c.2-a.2)<0)\/((a.1-b.1)*(a.1-b.1)+(a.2-b.2)*(a.2-b.2)<(b.1-a.1)*(c.1-a.1)+(b.2-a.2)*(c.2-a.2)):=by
     by_cases g1:(b.1-a.1)*(c.1-a.1)+(b.2-a.2)*(c.2-a.2)<0
     ·exact .inr (.inl g1)
     ·by_cases g2:(a.1-b.1)*(a.1-b.1)+(a.2-b.2)*(a.2-b.2)<(b.1-a.1)*(c.1-a.1)+(b.2-a.2)*(c.2-a.2)
      ·exact .inr (.inr g2)
      ·left;refine⟨((a.1-b.1)*(a.1-b.1)+(a.2-b.2)*(a.2-b.2))-((b.1-a.1)*(c.1-a.1)+(b.2-a.2)*(c.2-a.2)),(b.1-a.1)*(c.1-a.1)+(b.2-a.2)*(c.2-a.2),by lia,by lia,by lia,?_,?_⟩<;>grind
    have wd:On a b d\/((b.1-a.1)*(d.1-a.1)+(b.2-a.2)*(d.2-a.2)<0)\/((a.1-b.1)*(a.1-b.1)+(a.2-b.2)*(a.2-b.2)<(b.1-a.1)*(d.1-a.1)+(b.2-a.2)*(d.2-a.2)):=by
     by_cases g1:(b.1-a.1)*(d.1-a.1)+(b.2-a.2)*(d.2-a.2)<0
     ·exact .inr (.inl g1)
     ·by_cases g2:(a.1-b.1)*(a.1-b.1)+(a.2-b.2)*(a.2-b.2)<(b.1-a.1)*(d.1-a.1)+(b.2-a.2)*(d.2-a.2)
      ·exact .inr (.inr g2)
      ·left;refine⟨((a.1-b.1)*(a.1-b.1)+(a.2-b.2)*(a.2-b.2))-((b.1-a.1)*(d.1-a.1)+(b.2-a.2)*(d.2-a.2)),(b.1-a.1)*(d.1-a.1)+(b.2-a.2)*(d.2-a.2),by lia,by lia,by lia,?_,?_⟩<;>grind
    rcases wc with wc|wc
    ·exact .inl wc
    rcases wd with wd|wd
    ·exact .inr (.inl wd)
    have onA:=BI (w1:=b.1-a.1) (w2:=b.2-a.2) pq;generalize (b.1-a.1)*(c.1-a.1)+(b.2-a.2)*(c.2-a.2)=fc at *
    generalize (b.1-a.1)*(d.1-a.1)+(b.2-a.2)*(d.2-a.2)=fd at *
    generalize (a.1-b.1)*(a.1-b.1)+(a.2-b.2)*(a.2-b.2)=l at *
    have vl:=Int.mul_nonneg hv (Int.le_of_lt L);rcases wc with wc|wc
    ·rcases wd with wd|wd
     ·exfalso;have q1:=Int.mul_nonneg hs (show 0<=-fc by lia)
      have q2:=Int.mul_nonneg ht (show 0<=-fd by lia)
      have q3:s*-fc=-(s*fc):=by grind
      have q4:t*-fd=-(t*fd):=by grind
      have q5:s*fc=0:=by lia
      have q6:t*fd=0:=by lia
      rcases Int.mul_eq_zero.mp q5 with q|q
      ·rcases Int.mul_eq_zero.mp q6 with q'|q'<;>lia
      ·lia
     ·refine .inr (.inr (.inl ⟨fd,-fc,by lia,by lia,by lia,?_,?_⟩))<;>grind
    ·rcases wd with wd|wd
     ·refine .inr (.inr (.inl ⟨-fd,fc,by lia,by lia,by lia,?_,?_⟩))<;>grind
     ·exfalso;have q1:=Int.mul_nonneg hs (show 0<=fc-l by lia)
      have q2:=Int.mul_nonneg ht (show 0<=fd-l by lia)
      have q3:=Int.mul_nonneg hu (Int.le_of_lt L);have q4:s*(fc-l)+t*(fd-l)+u*l=0:=Az mf he;have q5:s*(fc-l)=0:=by omega
      have q6:t*(fd-l)=0:=by omega
      rcases Int.mul_eq_zero.mp q5 with q|q
      ·rcases Int.mul_eq_zero.mp q6 with q'|q'<;>lia
      ·lia
  ·
   left;rw[z1]at k1
   have:t=0:=by rcases Int.mul_eq_zero.mp (show t*FF.turn a b d=0 by lia) with q|q<;>lia
   subst this;refine⟨u,v,hu,hv,hp,?_,?_⟩<;>grind
 ·by_cases z2:FF.turn a b d=0
  ·right;left;rw[z2]at k1
   have:s=0:=by rcases Int.mul_eq_zero.mp (show s*FF.turn a b c=0 by lia) with q|q<;>lia
   subst this;refine⟨u,v,hu,hv,hp,?_,?_⟩<;>grind
  ·by_cases z3:FF.turn c d a=0
   ·right;right;by_cases z4:FF.turn c d b=0
    ·exfalso;have e3:FF.turn a b c=FF.turn a b d:=by lia
     rw[e3]at k1;have e4:(u+v)*FF.turn a b d=0:=by grind
     exact z2 (bw hp e4)
    ·left;rw[z3]at k2
     have:v=0:=by rcases Int.mul_eq_zero.mp (show v*FF.turn c d b=0 by lia) with q|q<;>lia
     subst this;refine⟨s,t,hs,ht,by lia,?_,?_⟩<;>grind
   ·right;right;by_cases z4:FF.turn c d b=0
    ·right;left;rw[z4]at k2
     have:u=0:=by rcases Int.mul_eq_zero.mp (show u*FF.turn c d a=0 by lia) with q|q<;>lia
     subst this;refine⟨s,t,hs,ht,by lia,?_,?_⟩<;>grind
    ·right;right;have key:∀x y S T:Int,0<=x->0<=y->0<x+y->x*S+y*T=0->S≠0->T≠0->S*T<0:=by
      intro x y S T hx hy Ed e hS hT;apply BA;apply Zz;intro Du;have hc:(0<S/\0<T)\/(S<0/\T<0):=by lia
      rcases hc with ⟨p1,p2⟩|⟨p1,p2⟩
      ·have q1:=Int.mul_nonneg hx (Int.le_of_lt p1);have q2:=Int.mul_nonneg hy (Int.le_of_lt p2);rcases Int.mul_eq_zero.mp (show x*S=0 by lia) with q|q
       ·rcases Int.mul_eq_zero.mp (show y*T=0 by lia) with q'|q'<;>lia
       ·lia
      ·have q1:=Int.mul_nonneg hx (show 0<=-S by lia)
       have q2:=Int.mul_nonneg hy (show 0<=-T by lia)
       have q3:x*-S=-(x*S):=by grind
       have q4:y*-T=-(y*T):=by grind
       rcases Int.mul_eq_zero.mp (show x*S=0 by lia) with q|q
       ·rcases Int.mul_eq_zero.mp (show y*T=0 by lia) with q'|q'<;>lia
       ·lia
     exact⟨key s t _ _ hs ht (by lia) k1 z1 z2,key u v _ _ hu hv hp k2 z3 z4⟩
end FF
end
section
namespace FF
theorem ba.sepX{a b c d:Pt}{k:Int}(h:ba a b c d)(h1:a.1<=k)(h2:b.1<=k)(h3:k<c.1)(h4:k<d.1):False:=by
 obtain⟨u,v,s,t,hu,hv,hs,ht,hp,he,e1,_⟩:=h;have q1:=Int.mul_nonneg hu (show 0<=k-a.1 by lia)
 have q2:=Int.mul_nonneg hv (show 0<=k-b.1 by lia)
 have q3:=Int.mul_nonneg hs (show 0<=c.1-k-1 by lia)
 have q4:=Int.mul_nonneg ht (show 0<=d.1-k-1 by lia)
 have e:u*(k-a.1)+v*(k-b.1)+s*(c.1-k-1)+t*(d.1-k-1)=- (u+v):=by
  have e':v=s+t-u:=by lia
  subst e';grind
 lia
theorem ba.touchX{a b c d:Pt}(h:ba a b c d)(h1:a.1<b.1)(h2:b.1=c.1)(h3:c.1<d.1)(h4:b.2≠c.2):False:=by
 obtain⟨u,v,s,t,hu,hv,hs,ht,hp,he,e1,e2⟩:=h;have q1:=Int.mul_nonneg hu (show 0<=b.1-a.1 by lia)
 have q4:=Int.mul_nonneg ht (show 0<=d.1-c.1 by lia)
 have e:u*(b.1-a.1)+t*(d.1-c.1)=0:=by
  have e':v=s+t-u:=by lia
  subst e';grind
 have z1:u=0:=by
  rcases Int.mul_eq_zero.mp (show u*(b.1-a.1)=0 by omega) with q|q<;>omega
 have z2:t=0:=by
  rcases Int.mul_eq_zero.mp (show t*(d.1-c.1)=0 by omega) with q|q<;>omega
 subst z1 z2;have e5:v=s:=by lia
 subst e5;have e6:v*(b.2-c.2)=0:=by grind
 rcases Int.mul_eq_zero.mp e6 with q|q<;>lia
theorem ba.turns{a b c d:Pt}(h:ba a b c d)(h1:0<turn a b c)(h2:0<turn a b d):False:=by
 obtain⟨u,v,s,t,hu,hv,hs,ht,hp,he,e1,e2⟩:=h;have k1:s*FF.turn a b c+t*FF.turn a b d=0:=by unfold FF.turn;grind
 have q1:=Int.mul_nonneg hs (Int.le_of_lt h1);have q2:=Int.mul_nonneg ht (Int.le_of_lt h2);have z1:s=0:=by rcases Int.mul_eq_zero.mp (show s*turn a b c=0 by lia) with q|q<;>lia
 have z2:t=0:=by rcases Int.mul_eq_zero.mp (show t*turn a b d=0 by lia) with q|q<;>lia
 lia
theorem Back.symm{a c b:Pt}(h:Back a c b):Back b c a:=by
 obtain⟨s,t,hs,ht,e1,e2⟩:=h;exact⟨t,s,ht,hs,e1.symm,e2.symm⟩
theorem Back.offX{a c b:Pt}(h:Back a c b)(h1:a.1<=c.1)(h2:c.1<=b.1)(h3:a.1<b.1):False:=by
 obtain⟨s,t,hs,ht,e1,e2⟩:=h;have q1:=Int.mul_nonneg (Int.le_of_lt hs) (show 0<=c.1-a.1 by lia)
 have q2:=Int.mul_nonneg (Int.le_of_lt ht) (show 0<=b.1-c.1 by lia)
 have e3:s*(c.1-a.1)=-(t*(b.1-c.1)):=by grind
 rcases Int.mul_eq_zero.mp (show s*(c.1-a.1)=0 by omega) with q|q
 ·lia
 rcases Int.mul_eq_zero.mp (show t*(b.1-c.1)=0 by omega) with q'|q'<;>omega
theorem Back.tip{a c b:Pt}(h:Back a c b)(h1:a.1=b.1)(h2:a.1≠c.1)(h3:a.2≠b.2):False:=by
 obtain⟨s,t,hs,ht,e1,e2⟩:=h;have e3:(s-t)*(a.1-c.1)=0:=by rw[h1]at e1 ⊢;grind
 have e4:s=t:=by rcases Int.mul_eq_zero.mp e3 with q|q<;>lia
 subst e4;have e5:s*(a.2-b.2)=0:=by grind
 rcases Int.mul_eq_zero.mp e5 with q|q<;>lia
noncomputable def at'(cs:List Pt)(i:Nat):Pt:=cs.getD i (0,0)
noncomputable def nx(n i:Nat):Nat:=if i+1=n then 0 else i+1
structure b8(n:Nat)(P:Nat->Pt):Prop where
 inj:∀i j,i<n->j<n->P i=P j->i=j
 nob:∀i,i<n->¬Back (P i) (P (nx n i)) (P (nx n (nx n i)))
 nom:∀i j,i<n->j<n->i≠j->nx n i≠j->nx n j≠i->¬ba (P i) (P (nx n i)) (P j) (P (nx n j))
structure aZ(cs:List Pt):Prop where
 lo:3<=cs.length
 hi:cs.length<=12
 ok:b8 cs.length (at' cs)
theorem aH{n i:Nat}(h:i<n):nx n i<n:=by unfold nx;split<;>lia
theorem b8.reindex{n:Nat}{P R:Nat->Pt}(F:b8 n P)(σ:Nat->Nat)(h1:∀i,i<n->σ i<n)(h2:∀i j,i<n->j<n->σ i=σ j->i=j)
  (h3:∀i,i<n->R i=P (σ i))(h4:∀i,i<n->σ (nx n i)=nx n (σ i)):b8 n R:=by
 refine⟨fun i j hi hj e=>?_,fun i hi=>?_,fun i j hi hj h5 h6 h7=>?_⟩
 ·rw[h3 i hi,h3 j hj]at e;exact h2 i j hi hj (F.inj _ _ (h1 i hi) (h1 j hj) e)
 ·rw[h3 i hi,h3 _ (aH hi),h3 _ (aH (aH hi)),h4 _ (aH hi),h4 _ hi];exact F.nob _ (h1 i hi)
 ·rw[h3 i hi,h3 _ (aH hi),h3 j hj,h3 _ (aH hj),h4 _ hi,h4 _ hj];refine F.nom _ _ (h1 i hi) (h1 j hj) (fun e=>h5 (h2 i j hi hj e)) (fun e=>h6 ?_) (fun e=>h7 ?_)
  ·rw[<-h4 _ hi]at e;exact h2 _ _ (aH hi) hj e
  ·rw[<-h4 _ hj]at e;exact h2 _ _ (aH hj) hi e
theorem b8.reversed{n:Nat}{P R:Nat->Pt}(F:b8 n P)(h3:∀i,i<n->R i=P (n-1-i)):b8 n R:=by
 have h1:∀i,i<n->n-1-i<n:=by lia
 have h2:∀i j,i<n->j<n->n-1-i=n-1-j->i=j:=by lia
 have h4:∀i,i<n->nx n (n-1-nx n i)=n-1-i:=by
  intro i hi;unfold nx
  split<;>split<;>lia
 have h5:∀i j,i<n->j<n->nx n i=nx n j->i=j:=by
  intro i j hi hj;unfold nx
  split<;>split<;>lia
 refine⟨fun i j hi hj e=>?_,fun i hi hb=>?_,fun i j hi hj h5' h6 h7 hm=>?_⟩
 ·rw[h3 i hi,h3 j hj]at e;exact h2 i j hi hj (F.inj _ _ (h1 i hi) (h1 j hj) e)
 ·rw[h3 i hi,h3 _ (aH hi),h3 _ (aH (aH hi))]at hb
  have:=F.nob _ (h1 _ (aH (aH hi)))
  rw[h4 _ (aH hi),h4 _ hi]at this;exact this hb.symm
 ·rw[h3 i hi,h3 _ (aH hi),h3 j hj,h3 _ (aH hj)]at hm
  have:=F.nom _ _ (h1 _ (aH hi)) (h1 _ (aH hj)) (fun e=>h5' (h5 _ _ hi hj (h2 _ _ (aH hi) (aH hj) e)))
   (fun e=>h7 (by rw[h4 _ hi]at e;exact (h2 _ _ hi (aH hj) e).symm))
   (fun e=>h6 (by rw[h4 _ hj]at e;exact (h2 _ _ hj (aH hi) e).symm))
  rw[h4 _ hi,h4 _ hj]at this;exact this hm.swap1.swap2
structure Tn where
 a:Int
 b:Int
 c:Int
 d:Int
 e:Int
 f:Int
noncomputable def Tn.det(T:Tn):Int:=T.a*T.d-T.b*T.c
noncomputable def Tn.led(T:Tn)(p:Pt):Pt:=(T.a*p.1+T.b*p.2+T.e,T.c*p.1+T.d*p.2+T.f)
theorem Ch{a b c d x y X Y:Int}(h1:a*x+b*y=X)(h2:c*x+d*y=Y):(a*d-b*c)*x=d*X-b*Y/\(a*d-b*c)*y=a*Y-c*X:=by
 constructor<;>grind
theorem c8{k x y:Int}(hk:k≠0)(h:k*x=k*y):x=y:=Int.eq_of_mul_eq_mul_left hk h
theorem mB{T:Tn}(h:T.det≠0){p q:Pt}(e:T.led p=T.led q):p=q:=by
 have e1:T.a*p.1+T.b*p.2=T.a*q.1+T.b*q.2:=by have:=congrArg Vb e;simp only[Tn.led]at this;lia
 have e2:T.c*p.1+T.d*p.2=T.c*q.1+T.d*q.2:=by have:=congrArg WL e;simp only[Tn.led]at this;lia
 have i1:=Ch e1 e2;have i2:=Ch (a:=T.a) (b:=T.b) (c:=T.c) (d:=T.d) (x:=q.1) (y:=q.2) rfl rfl;exact Yy (c8 h (i1.1.trans i2.1.symm)) (c8 h (i1.2.trans i2.2.symm))
theorem Back.unled{T:Tn}(h:T.det≠0){a c b:Pt}(k:Back (T.led a) (T.led c) (T.led b)):Back a c b:=by
 obtain⟨s,t,hs,ht,e1,e2⟩:=k;simp only[Tn.led]at e1 e2;refine⟨s,t,hs,ht,c8 h ?_,c8 h ?_⟩
 ·unfold Tn.det;grind
 ·unfold Tn.det;grind
theorem ba.unled{T:Tn}(h:T.det≠0){a b c d:Pt}(k:ba (T.led a) (T.led b) (T.led c) (T.led d)):ba a b c d:=by
 obtain⟨u,v,s,t,hu,hv,hs,ht,hp,he,e1,e2⟩:=k;simp only[Tn.led]at e1 e2;have e':v=s+t-u:=by lia
 refine⟨u,v,s,t,hu,hv,hs,ht,hp,he,c8 h ?_,c8 h ?_⟩
 ·unfold Tn.det;subst e';grind
 ·unfold Tn.det;subst e';grind
theorem Back.led(T:Tn){a c b:Pt}(k:Back a c b):Back (T.led a) (T.led c) (T.led b):=by
 obtain⟨s,t,hs,ht,e1,e2⟩:=k;refine⟨s,t,hs,ht,?_,?_⟩<;>simp only[Tn.led]<;>grind
theorem ba.led(T:Tn){a b c d:Pt}(k:ba a b c d):ba (T.led a) (T.led b) (T.led c) (T.led d):=by
 obtain⟨u,v,s,t,hu,hv,hs,ht,hp,he,e1,e2⟩:=k;have e':v=s+t-u:=by lia
 refine⟨u,v,s,t,hu,hv,hs,ht,hp,he,?_,?_⟩<;>simp only[Tn.led]<;>subst e'<;>grind
theorem b8.led{n:Nat}{P R:Nat->Pt}(F:b8 n P)(T:Tn)(h:T.det≠0)(h3:∀i,i<n->R i=T.led (P i)):b8 n R:=by
 refine⟨fun i j hi hj e=>?_,fun i hi hb=>?_,fun i j hi hj h5' h6 h7 hm=>?_⟩
 ·rw[h3 i hi,h3 j hj]at e;exact F.inj _ _ hi hj (mB h e)
 ·rw[h3 i hi,h3 _ (aH hi),h3 _ (aH (aH hi))]at hb;exact F.nob _ hi (hb.unled h)
 ·rw[h3 i hi,h3 _ (aH hi),h3 j hj,h3 _ (aH hj)]at hm;exact F.nom _ _ hi hj h5' h6 h7 (hm.unled h)
theorem b8.unled{n:Nat}{P R:Nat->Pt}(F:b8 n R)(T:Tn)(h3:∀i,i<n->R i=T.led (P i)):b8 n P:=by
 refine⟨fun i j hi hj e=>?_,fun i hi hb=>?_,fun i j hi hj h5' h6 h7 hm=>?_⟩
 ·exact F.inj _ _ hi hj (by rw[h3 i hi,h3 j hj,e])
 ·refine F.nob _ hi ?_;rw[h3 i hi,h3 _ (aH hi),h3 _ (aH (aH hi))];exact hb.led T
 ·refine F.nom _ _ hi hj h5' h6 h7 ?_;rw[h3 i hi,h3 _ (aH hi),h3 j hj,h3 _ (aH hj)];exact hm.led T
end FF
end
section
namespace FF
noncomputable def bO(m b:Nat)(x l h:Nat->Int)(i:Nat):Pt:=if i<m then (x i,l i) else (x (2*m-1-b-i),h (2*m-1-b-i))
structure cI(m a b:Nat)(x l h:Nat->Int):Prop where
 m2:2<=m
 m6:m<=6
 a1:a<=1
 b1:b<=1
 n3:3<=2*m-a-b
 xs:∀i j,i<j->j<m->x i<x j
 lh:∀i,i<m->l i<h i
noncomputable def up(m a b:Nat)(l h:Nat->Int)(k:Nat):Int:=if (k=0/\a=1)\/(k=m-1/\b=1) then l k else h k
inductive o5(m a b n:Nat)(x l h:Nat->Int)(P:Nat->Pt)(i:Nat):Prop
 |low:i<m-1->P i=(x i,l i)->P (nx n i)=(x (i+1),l (i+1))->o5 m a b n x l h P i
 |right:i=m-1->b=0->P i=(x (m-1),l (m-1))->P (nx n i)=(x (m-1),h (m-1))->o5 m a b n x l h P i
 |high (s:Nat):s+b+i+2=2*m->s<=m-2->P i=(x (s+1),up m a b l h (s+1))->P (nx n i)=(x s,up m a b l h s)->o5 m a b n x l h P i
 |left:i=n-1->a=0->P i=(x 0,h 0)->P (nx n i)=(x 0,l 0)->o5 m a b n x l h P i
variable{m a b n:Nat}{x l h:Nat->Int}{P:Nat->Pt}
set_option synthInstance.maxHeartbeats 2000000 in
set_option synthInstance.maxSize 100000 in
set_option maxRecDepth 10000 in
theorem AG:∀m,m<7->∀a,a<2->∀b,b<2->∀i,i<12->2<=m->3<=2*m-a-b->i<2*m-a-b->
  (i<m-1/\i<m/\nx (2*m-a-b) i=i+1/\i+1<2*m-a-b/\i+1<m)\/
  (i=m-1/\b=0/\i<m/\nx (2*m-a-b) i=m/\m<2*m-a-b/\¬m<m/\2*m-1-b-m=m-1)\/
  (i=2*m-a-b-1/\a=0/\¬i<m/\2*m-1-b-i=0/\nx (2*m-a-b) i=0/\0<2*m-a-b/\0<m)\/
  (2*m-2-b-i+b+i+2=2*m/\2*m-2-b-i<=m-2/\nx (2*m-a-b) i<2*m-a-b/\
   ((i<m/\i=2*m-2-b-i+1/\((2*m-2-b-i+1=0/\a=1)\/(2*m-2-b-i+1=m-1/\b=1)))\/(¬i<m/\2*m-1-b-i=2*m-2-b-i+1/\¬((2*m-2-b-i+1=0/\a=1)\/(2*m-2-b-i+1=m-1/\b=1))))/\
   ((nx (2*m-a-b) i<m/\nx (2*m-a-b) i=2*m-2-b-i/\((2*m-2-b-i=0/\a=1)\/(2*m-2-b-i=m-1/\b=1)))\/(¬nx (2*m-a-b) i<m/\2*m-1-b-nx (2*m-a-b) i=2*m-2-b-i/\¬((2*m-2-b-i=0/\a=1)\/(2*m-2-b-i=m-1/\b=1))))):=by decide +kernel
theorem dW(C:cI m a b x l h)(hn:n=2*m-a-b)(hP:∀i,i<n->P i=bO m b x l h i){i:Nat}(hi:i<n):o5 m a b n x l h P i:=by
 subst hn;rcases AG m (Nat.lt_succ_of_le C.m6) a (Nat.lt_succ_of_le C.a1) b (Nat.lt_succ_of_le C.b1) i (by have:=C.m6;lia) C.m2 C.n3 hi with ⟨c,c1,e,c2,c3⟩|⟨c,c0,c1,e,c2,c3,e4⟩|⟨c,c0,c1,e4,e,c2,c3⟩|⟨c,c0,c2,d,g⟩
 ·refine .low c ?_ ?_
  ·rw[hP i hi];unfold bO;rw[if_pos c1]
  ·rw[e,hP _ c2];unfold bO;rw[if_pos c3]
 ·refine .right c c0 ?_ ?_
  ·rw[hP i hi];unfold bO;rw[if_pos c1,c]
  ·rw[e,hP _ c2];unfold bO;rw[if_neg c3,e4]
 ·refine .left c c0 ?_ ?_
  ·rw[hP i hi];unfold bO;rw[if_neg c1,e4]
  ·rw[e,hP _ c2];unfold bO;rw[if_pos c3]
 ·refine .high (2*m-2-b-i) c c0 ?_ ?_
  ·rw[hP i hi];unfold bO up;rcases d with ⟨d1,d2,d3⟩|⟨d1,d2,d3⟩
   ·rw[if_pos d1,if_pos d3,<-d2]
   ·rw[if_neg d1,if_neg d3,d2]
  ·rw[hP _ c2];unfold bO up;rcases g with ⟨d1,d2,d3⟩|⟨d1,d2,d3⟩
   ·rw[if_pos d1,if_pos d3,d2]
   ·rw[if_neg d1,if_neg d3,d2]
theorem io(C:cI m a b x l h){k:Nat}(h0:k<m)(h1:k≠0\/a=0)(h2:k≠m-1\/b=0):l k<up m a b l h k:=by
 have:=C.lh k h0
 unfold up;rw[if_neg (by lia)];exact this
theorem tE{x0 x1 l0 l1 u0 u1:Int}(hx:x0<x1)(h0:l0<u0)(h1:l1<u1):0<turn (x0,l0) (x1,l1) (x0,u0)/\0<turn (x0,l0) (x1,l1) (x1,u1):=by
 have q0:=Int.mul_pos (show 0<x1-x0 by lia) (show 0<u0-l0 by lia)
 have q1:=Int.mul_pos (show 0<x1-x0 by lia) (show 0<u1-l1 by lia)
 constructor
 ·have e:turn (x0,l0) (x1,l1) (x0,u0)=(x1-x0)*(u0-l0):=by unfold turn;grind
  lia
 ·have e:turn (x0,l0) (x1,l1) (x1,u1)=(x1-x0)*(u1-l1):=by unfold turn;grind
  lia
theorem Aq(C:cI m a b x l h)(hn:n=2*m-a-b)(hP:∀i,i<n->P i=bO m b x l h i){i j:Nat}(hi:i<n)(hj:j<n)
  (h1:i≠j)(h2:nx n i≠j)(h3:nx n j≠i):¬ba (P i) (P (nx n i)) (P j) (P (nx n j)):=by
 have C2:=C.m2;have C3:=C.n3;have Ca:=C.a1;have Cb:=C.b1;intro hm;have Si:=dW C hn hP hi;have Sj:=dW C hn hP hj;have xs:=C.xs;have LL:∀s t:Nat,s+1<t->t+1<m->∀p q p' q':Int,¬ba (x s,p) (x (s+1),q) (x t,p') (x (t+1),q'):=by
  intro s t hs ht p q p' q' hM;exact hM.sepX (k:=x (s+1)) (Int.le_of_lt (xs s (s+1) (Nat.lt_succ_self _) (by lia))) (Int.le_refl _) (xs (s+1) t hs (by lia)) (xs (s+1) (t+1) (by lia) (by lia))
 have LT:∀s:Nat,s+2<m->∀p q p' q':Int,q≠p'->¬ba (x s,p) (x (s+1),q) (x (s+1),p') (x (s+2),q'):=by
  intro s hs p q p' q' hq hM;exact hM.touchX (xs s (s+1) (Nat.lt_succ_self _) (by lia)) rfl (xs (s+1) (s+2) (Nat.lt_succ_self _) (by lia)) hq
 have LR:∀s:Nat,s+2<m->∀p q p' q':Int,¬ba (x s,p) (x (s+1),q) (x (m-1),p') (x (m-1),q'):=by
  intro s hs p q p' q' hM;exact hM.sepX (k:=x (s+1)) (Int.le_of_lt (xs s (s+1) (Nat.lt_succ_self _) (by lia))) (Int.le_refl _) (xs (s+1) (m-1) (by lia) (by lia)) (xs (s+1) (m-1) (by lia) (by lia))
 have VL:∀s:Nat,1<=s->s+1<m->∀p q p' q':Int,¬ba (x 0,p) (x 0,q) (x s,p') (x (s+1),q'):=by
  intro s hs ht p q p' q' hM;exact hM.sepX (k:=x 0) (Int.le_refl _) (Int.le_refl _) (xs 0 s (by lia) (by lia)) (xs 0 (s+1) (Nat.succ_pos _) (by lia))
 have VV:∀p q p' q':Int,¬ba (x 0,p) (x 0,q) (x (m-1),p') (x (m-1),q'):=by
  intro p q p' q' hM;exact hM.sepX (k:=x 0) (Int.le_refl _) (Int.le_refl _) (xs 0 (m-1) (by lia) (by lia)) (xs 0 (m-1) (by lia) (by lia))
 have LU:∀s t:Nat,s+1<m->t+1<m->((s≠t)\/((s≠0\/a=0)/\(s+1≠m-1\/b=0)))->¬ba (x s,l s) (x (s+1),l (s+1)) (x (t+1),up m a b l h (t+1)) (x t,up m a b l h t):=by
  intro s t hs ht CZ hM;by_cases e1:s=t
  ·subst e1;have g0:=io C (k:=s) (by lia) (by lia) (by lia)
   have g1:=io C (k:=s+1) (by lia) (by lia) (by lia)
   have T:=tE (xs s (s+1) (Nat.lt_succ_self _) (by lia)) g0 g1
   exact hM.turns T.2 T.1
  by_cases e2:s+1<t
  ·exact LL s t e2 ht _ _ _ _ hM.swap2
  by_cases e3:t+1<s
  ·exact LL t s e3 hs _ _ _ _ hM.swap2.symm
  by_cases e4:t=s+1
  ·subst e4;have g1:=io C (k:=s+1) (by lia) (by lia) (by lia)
   exact LT s (by lia) _ _ _ _ (by lia) hM.swap2
  ·have e5:s=t+1:=by lia
   subst e5;have g1:=io C (k:=t+1) (by lia) (by lia) (by lia)
   exact LT t (by lia) _ _ _ _ (by lia) hM.swap2.symm
 have n2:∀i,i<n->nx n i=if i+1=n then 0 else i+1:=fun i _=>rfl
 rw[n2 i hi]at h2;rw[n2 j hj]at h3;cases Si with
 |low a1 e1 e2=>
  rw[e1,e2]at hm;cases Sj with
  |low b1 f1 f2=>
   rw[f1,f2]at hm;rcases Nat.lt_or_gt_of_ne h1 with g|g
   ·exact LL i j (by split at h2<;>lia) (by lia) _ _ _ _ hm
   ·exact LL j i (by split at h3<;>lia) (by lia) _ _ _ _ hm.symm
  |right b1 b2 f1 f2=>
   rw[f1,f2]at hm;exact LR i (by split at h2<;>lia) _ _ _ _ hm
  |high s b1 b2 f1 f2=>
   rw[f1,f2]at hm;refine LU i s (by lia) (by lia) ?_ hm
   by_cases g:i=s
   ·right;subst g;constructor
    ·by_cases g1:i=0
     ·right
      split at h3<;>lia
     ·exact .inl g1
    ·by_cases g1:i+1=m-1
     ·right
      split at h2<;>lia
     ·exact .inl g1
   ·exact .inl g
  |left b1 b2 f1 f2=>
   rw[f1,f2]at hm;exact VL i (by split at h3<;>lia) (by lia) _ _ _ _ hm.symm
 |right a1 a2 e1 e2=>
  rw[e1,e2]at hm;cases Sj with
  |low b1 f1 f2=>
   rw[f1,f2]at hm;exact LR j (by split at h3<;>lia) _ _ _ _ hm.symm
  |right b1 b2 f1 f2=>lia
  |high s b1 b2 f1 f2=>
   rw[f1,f2]at hm;exact LR s (by split at h2<;>lia) _ _ _ _ hm.symm.swap1
  |left b1 b2 f1 f2=>
   rw[f1,f2]at hm;exact VV _ _ _ _ hm.symm
 |high t a1 a2 e1 e2=>
  rw[e1,e2]at hm;cases Sj with
  |low b1 f1 f2=>
   rw[f1,f2]at hm;refine LU j t (by lia) (by lia) ?_ hm.symm
   by_cases g:j=t
   ·right;subst g;constructor
    ·by_cases g1:j=0
     ·right
      split at h2<;>lia
     ·exact .inl g1
    ·by_cases g1:j+1=m-1
     ·right
      split at h3<;>lia
     ·exact .inl g1
   ·exact .inl g
  |right b1 b2 f1 f2=>
   rw[f1,f2]at hm;exact LR t (by split at h3<;>lia) _ _ _ _ hm.swap1
  |high s b1 b2 f1 f2=>
   rw[f1,f2]at hm;rcases Nat.lt_or_gt_of_ne h1 with g|g
   ·exact LL s t (by split at h2<;>lia) (by lia) _ _ _ _ hm.symm.swap1.swap2
   ·exact LL t s (by split at h3<;>lia) (by lia) _ _ _ _ hm.swap1.swap2
  |left b1 b2 f1 f2=>
   rw[f1,f2]at hm;exact VL t (by split at h2<;>lia) (by lia) _ _ _ _ hm.symm.swap2
 |left a1 a2 e1 e2=>
  rw[e1,e2]at hm;cases Sj with
  |low b1 f1 f2=>
   rw[f1,f2]at hm;exact VL j (by split at h2<;>lia) (by lia) _ _ _ _ hm
  |right b1 b2 f1 f2=>
   rw[f1,f2]at hm;exact VV _ _ _ _ hm
  |high s b1 b2 f1 f2=>
   rw[f1,f2]at hm;exact VL s (by split at h3<;>lia) (by lia) _ _ _ _ hm.swap2
  |left b1 b2 f1 f2=>lia
theorem sv(C:cI m a b x l h)(hn:n=2*m-a-b)(hP:∀i,i<n->P i=bO m b x l h i){i j:Nat}(hi:i<n)(hj:j<n)
  (e:P i=P j):i=j:=by
 have C2:=C.m2;have C3:=C.n3;have Ca:=C.a1;have Cb:=C.b1;have xi:∀s t,s<m->t<m->x s=x t->s=t:=by
  intro s t hs ht he;rcases Nat.lt_trichotomy s t with g|g|g
  ·have:=C.xs s t g ht;lia
  ·exact g
  ·have:=C.xs t s g hs;lia
 rw[hP i hi,hP j hj]at e;unfold bO at e
 split at e<;>split at e
 ·exact xi _ _ (by lia) (by lia) (congrArg Vb e)
 ·have q:=xi _ _ (by lia) (by lia) (congrArg Vb e)
  have q2:=congrArg WL e;simp only at q2;rw[q]at q2
  have:=C.lh (2*m-1-b-j) (by lia)
  lia
 ·have q:=xi _ _ (by lia) (by lia) (congrArg Vb e)
  have q2:=congrArg WL e;simp only at q2;rw[q]at q2
  have:=C.lh j (by lia)
  lia
 ·have q:=xi _ _ (by lia) (by lia) (congrArg Vb e)
  lia
theorem z_(C:cI m a b x l h)(hn:n=2*m-a-b)(hP:∀i,i<n->P i=bO m b x l h i){i:Nat}(hi:i<n):
  ¬Back (P i) (P (nx n i)) (P (nx n (nx n i))):=by
 have C2:=C.m2;have C3:=C.n3;have Ca:=C.a1;have Cb:=C.b1;intro hb;have xs:=C.xs;have Si:=dW C hn hP hi;have Sj:=dW C hn hP (aH hi);have n2:nx n i=if i+1=n then 0 else i+1:=rfl
 cases Si with
 |low a1 e1 e2=>
  have n3:nx n i=i+1:=by rw[n2,if_neg (by lia)]
  cases Sj with
  |low b1 f1 f2=>
   rw[e1,f1,f2,n3]at hb;have q2:=xs (i+1) (i+1+1) (Nat.lt_succ_self _) (by lia)
   have q1:=xs i (i+1) (Nat.lt_succ_self _) (by lia)
   exact hb.offX (Int.le_of_lt q1) (Int.le_of_lt q2) (Int.lt_trans q1 q2)
  |right b1 b2 f1 f2=>
   rw[e1,f1,f2]at hb;have q1:=xs i (m-1) a1 (by lia)
   exact hb.offX (Int.le_of_lt q1) (Int.le_refl _) q1
  |high s b1 b2 f1 f2=>
   rw[e1,e2,f2]at hb;have e5:s=i:=by lia
   subst e5;have q1:=xs s (s+1) (Nat.lt_succ_self _) (by lia)
   have q2:=io C (k:=s) (by lia) (by lia) (by lia)
   exact hb.tip rfl (Int.ne_of_lt q1) (Int.ne_of_lt q2)
  |left b1 b2 f1 f2=>lia
 |right a1 a2 e1 e2=>
  have n3:nx n i=i+1:=by rw[n2,if_neg (by lia)]
  cases Sj with
  |low b1 f1 f2=>lia
  |right b1 b2 f1 f2=>lia
  |high s b1 b2 f1 f2=>
   rw[e1,e2,f2]at hb;have q1:=xs s (m-1) (by lia) (by lia)
   exact hb.symm.offX (Int.le_of_lt q1) (Int.le_refl _) q1
  |left b1 b2 f1 f2=>lia
 |high t a1 a2 e1 e2=>
  cases Sj with
  |low b1 f1 f2=>
   have n3:nx n i=0:=by rw[n2]at b1 ⊢;split at b1<;>first|lia| (rw[if_pos (by lia)])
   have n4:i+1=n:=by rw[n2]at n3;split at n3<;>lia
   have e5:t=0:=by lia
   subst e5;rw[e1,f1,f2,n3]at hb;have q1:=xs 0 1 Nat.zero_lt_one C2;have q2:=io C (k:=1) C2 (.inl Nat.one_ne_zero) (by lia)
   exact hb.tip rfl (Int.ne_of_lt q1).symm (Int.ne_of_lt q2).symm
  |right b1 b2 f1 f2=>rw[n2]at b1;split at b1<;>lia
  |high s b1 b2 f1 f2=>
   have n3:nx n i=i+1:=by rw[n2]at b1 ⊢;split at b1<;>first|lia| (rw[if_neg (by lia)])
   have e5:t=s+1:=by lia
   subst e5;rw[e1,e2,f2]at hb;have q2:=xs (s+1) (s+1+1) (Nat.lt_succ_self _) (by lia)
   have q1:=xs s (s+1) (Nat.lt_succ_self _) (by lia)
   exact hb.symm.offX (Int.le_of_lt q1) (Int.le_of_lt q2) (Int.lt_trans q1 q2)
  |left b1 b2 f1 f2=>
   rw[e1,f1,f2]at hb;have q1:=xs 0 (t+1) (Nat.succ_pos _) (by lia)
   exact hb.symm.offX (Int.le_refl _) (Int.le_of_lt q1) q1
 |left a1 a2 e1 e2=>
  have n3:nx n i=0:=by rw[n2,if_pos (by lia)]
  cases Sj with
  |low b1 f1 f2=>
   rw[e1,e2,f2,n3]at hb;have q1:=xs 0 1 Nat.zero_lt_one C2;exact hb.offX (Int.le_refl _) (Int.le_of_lt q1) q1
  |right b1 b2 f1 f2=>lia
  |high s b1 b2 f1 f2=>lia
  |left b1 b2 f1 f2=>lia
theorem nP(C:cI m a b x l h)(hn:n=2*m-a-b)(hP:∀i,i<n->P i=bO m b x l h i):b8 n P:=
 ⟨fun _ _ hi hj e=>sv C hn hP hi hj e,fun _ hi=>z_ C hn hP hi,fun _ _ hi hj h1 h2 h3=>Aq C hn hP hi hj h1 h2 h3⟩
end FF
end
section
namespace FF
theorem bf{A B:List Pt}{i:Nat}:at' (A++B) i=if i<A.length then at' A i else at' B (i-A.length):=by
 unfold at';rw[Z2]
 split
 ·rw[ZW (by assumption),Z2]
 ·rw[Yt (by lia),Z2]
theorem aZ.rot{A B:List Pt}(F:aZ (A++B)):aZ (B++A):=by
 have hl:(B++A).length=(A++B).length:=by simp only[Z5];lia
 refine⟨hl ▸ F.lo,hl ▸ F.hi,?_⟩;rw[hl];have hn:(A++B).length=A.length+B.length:=Z5;by_cases hB:B.length=0
 ·have:B=[]:=Yd hB
  subst this;rw[ZJ,Y6]
  have:=F.ok
  rw[ZJ]at this;exact this
 by_cases hA:A.length=0
 ·have:A=[]:=Yd hA
  subst this;rw[ZJ,Y6]
  have:=F.ok
  rw[Y6]at this;exact this
 refine F.ok.reindex (fun i=>if i<B.length then i+A.length else i-B.length) ?_ ?_ ?_ ?_
 ·intro i hi;split<;>lia
 ·intro i j hi hj;split<;>split<;>lia
 ·intro i hi;rw[bf,bf];by_cases c:i<B.length
  ·rw[if_pos c,if_pos c,if_neg (by lia)]
   congr 1;lia
  ·rw[if_neg c,if_neg c,if_pos (by lia)]
 ·intro i hi;unfold nx;rw[hn]at hi ⊢
  (repeat' split)<;>lia
theorem aZ.rev{A:List Pt}(F:aZ A):aZ A.reverse:=by
 have hl:A.reverse.length=A.length:=ZA;refine⟨hl ▸ F.lo,hl ▸ F.hi,?_⟩;rw[hl];refine F.ok.reversed ?_;intro i hi;unfold at';rw[Z2,Z2,XB hi]
theorem dS{A:List Pt}{g:Pt->Pt}{i:Nat}(hi:i<A.length):at' (A.map g) i=g (at' A i):=by
 unfold at';rw[Z2,Z2,Zj,Z3 hi]
 rfl
theorem ow{A:List Pt}{T:Tn}(h:T.det≠0):aZ (A.map T.led)↔aZ A:=by
 have hl:(A.map T.led).length=A.length:=Z7 _;constructor
 ·intro F;refine⟨hl ▸ F.lo,hl ▸ F.hi,?_⟩
  have:=F.ok
  rw[hl]at this;exact this.unled T (fun i hi=>dS hi)
 ·intro F;refine⟨hl.symm ▸ F.lo,hl.symm ▸ F.hi,?_⟩;rw[hl];exact F.ok.led T h (fun i hi=>dS hi)
noncomputable def bg(p q c:Pt):Prop:=∃u v:Int,0<u/\0<v/\u*p.1+v*q.1=(u+v)*c.1/\u*p.2+v*q.2=(u+v)*c.2
theorem bg.swap{p q c:Pt}(h:bg p q c):bg q p c:=by
 obtain⟨u,v,hu,hv,e1,e2⟩:=h;exact⟨v,u,hv,hu,by rw[Int.add_comm v u];lia,by rw[Int.add_comm v u];lia⟩
theorem ba.sub{p q c a b:Pt}(h:bg p q c)(k:ba p c a b):ba p q a b:=by
 obtain⟨u,v,hu,hv,e1,e2⟩:=h;obtain⟨u',v',s,t,hu',hv',hs,ht,hp,he,f1,f2⟩:=k;have w:0<u+v:=by lia
 refine⟨u'*(u+v)+v'*u,v'*v,s*(u+v),t*(u+v),?_,?_,?_,?_,?_,?_,?_,?_⟩
 ·have:=Int.mul_nonneg hu' (Int.le_of_lt w);have:=Int.mul_nonneg hv' (Int.le_of_lt hu);lia
 ·exact Int.mul_nonneg hv' (Int.le_of_lt hv)
 ·exact Int.mul_nonneg hs (Int.le_of_lt w)
 ·exact Int.mul_nonneg ht (Int.le_of_lt w)
 ·have:=Int.mul_pos hp w
  have e:u'*(u+v)+v'*u+v'*v=(u'+v')*(u+v):=by grind
  lia
 ·have e:u'*(u+v)+v'*u+v'*v=(u'+v')*(u+v):=by grind
  rw[e,he];grind
 ·have e:(u'*(u+v)+v'*u)*p.1+v'*v*q.1=(u+v)*(u'*p.1+v'*c.1):=by grind
  rw[e,f1];grind
 ·have e:(u'*(u+v)+v'*u)*p.2+v'*v*q.2=(u+v)*(u'*p.2+v'*c.2):=by grind
  rw[e,f2];grind
theorem Back.sub{p q c b:Pt}(h:bg p q c)(k:Back c q b):Back p q b:=by
 obtain⟨u,v,hu,hv,e1,e2⟩:=h;obtain⟨s,t,hs,ht,f1,f2⟩:=k;refine⟨s*u,t*(u+v),Int.mul_pos hs hu,Int.mul_pos ht (by lia),?_,?_⟩
 ·have e:u*(p.1-q.1)=(u+v)*(c.1-q.1):=by grind
  rw[Int.mul_assoc,e];grind
 ·have e:u*(p.2-q.2)=(u+v)*(c.2-q.2):=by grind
  rw[Int.mul_assoc,e];grind
theorem bg.noback{p q c:Pt}(h:bg p q c)(Ej:p≠q):¬Back p c q:=by
 intro k;obtain⟨u,v,hu,hv,e1,e2⟩:=h;obtain⟨s,t,hs,ht,f1,f2⟩:=k;have w:0<u+v:=by lia
 have a1:u*(p.1-c.1)=- (v*(q.1-c.1)):=by grind
 have a2:u*(p.2-c.2)=- (v*(q.2-c.2)):=by grind
 have w2:0<u*t+v*s:=by have:=Int.mul_pos hu ht;have:=Int.mul_pos hv hs;lia
 have z1:q.1-c.1=0:=bw w2 (by grind)
 have z2:q.2-c.2=0:=bw w2 (by grind)
 rw[z1]at a1;rw[z2]at a2;have z3:p.1-c.1=0:=bw hu (by lia)
 have z4:p.2-c.2=0:=bw hu (by lia)
 exact Ej (Yy (by lia) (by lia))
theorem kD{p c q r:Pt}(hq:q≠c)(k:¬Back p c q)(hs:bg p c r)(hpc:p≠c):¬ba p r c q:=by
 intro m;obtain⟨u',v',s,t,hu',hv',hs',ht,hp,he,f1,f2⟩:=m;obtain⟨u,v,hu,hv,e1,e2⟩:=hs;have w:0<u+v:=by lia
 have g1:(u'*(u+v)+v'*u)*(p.1-c.1)=(u+v)*t*(q.1-c.1):=by
  have e:v'=s+t-u':=by lia
  subst e;grind
 have g2:(u'*(u+v)+v'*u)*(p.2-c.2)=(u+v)*t*(q.2-c.2):=by
  have e:v'=s+t-u':=by lia
  subst e;grind
 have w1:0<u'*(u+v)+v'*u:=by
  have q1:=Int.mul_nonneg hu' (Int.le_of_lt w);have q2:=Int.mul_nonneg hv' (Int.le_of_lt hu);by_cases z:u'=0
  ·have:=Int.mul_pos (show 0<v' by lia) hu;lia
  ·have:=Int.mul_pos (show 0<u' by lia) w;lia
 by_cases z:t=0
 ·subst z;have z1:p.1-c.1=0:=bw w1 (by rw[g1];grind)
  have z2:p.2-c.2=0:=bw w1 (by rw[g2];grind)
  exact hpc (Yy (by lia) (by lia))
 ·exact k ⟨_,_,w1,Int.mul_pos w (by lia),g1,g2⟩
theorem bg.on{p q c:Pt}(h:bg p q c):On p q c:=by
 obtain⟨u,v,hu,hv,e1,e2⟩:=h;exact⟨u,v,by lia,by lia,by lia,e1,e2⟩
theorem ny{p q c:Pt}(h:bg p q c)(Ej:p≠q):c≠q:=by
 obtain⟨u,v,hu,hv,e1,e2⟩:=h;intro e;subst e;have z1:p.1-c.1=0:=bw hu (by grind)
 have z2:p.2-c.2=0:=bw hu (by grind)
 exact Ej (Yy (by lia) (by lia))
theorem b8.insert{n:Nat}{P R:Nat->Pt}(F:b8 n P)(n3:3<=n){c:Pt}(hc:bg (P (n-1)) (P 0) c)(h0:R 0=c)(h1:∀i,i<n->R (i+1)=P i):b8 (n+1) R:=by
 have n0:P (n-1)≠P 0:=fun e=>by have:=F.inj _ _ (by lia) (by lia) e;lia
 have pn:n-1<n:=by lia
 have p0:0<n:=by lia
 have F9:nx n (n-1)=0:=by unfold nx;rw[if_pos (by lia)]
 have F8:nx n 0=1:=by unfold nx;rw[if_neg (by lia)]
 have old:∀i,i<n->nx n i=if i+1=n then 0 else i+1:=fun _ _=>rfl
 have cne:∀i,i<n->P i≠c:=by
  intro i hi e;by_cases i0:i=0
  ·subst i0;exact ny hc n0 e.symm
  by_cases i1:i=n-1
  ·subst i1;exact ny hc.swap (fun e=>n0 e.symm) e.symm
  by_cases i2:i=1
  ·
   subst i2
   have:=F.nob (n-1) pn
   have e1:=F9;have e2:=F8;rw[e1,e2,e]at this;obtain⟨u,v,hu,hv,g1,g2⟩:=hc;exact this ⟨u,u+v,hu,by lia,by grind,by grind⟩
  ·
   have e1:nx n (i-1)=i:=by unfold nx;rw[if_neg (by lia)];lia
   have e2:=F9;have e3:nx n (n-1)≠i-1:=by rw[e2];lia
   have:=F.nom (n-1) (i-1) pn (by lia) (by lia) e3 (by rw[e1];lia)
   rw[e1,e2,e]at this;exact this hc.on.meet2
 have new:∀i,i<n+1->nx (n+1) i=if i=n then 0 else i+1:=by
  intro i hi;unfold nx;(repeat' split)<;>lia
 have g0:nx (n+1) 0=0+1:=by rw[new _ (by lia),if_neg (by lia)]
 refine⟨fun i j hi hj e=>?_,fun i hi=>?_,fun i j hi hj k1 k2 k3=>?_⟩
 ·by_cases i0:i=0
  ·by_cases j0:j=0
   ·lia
   ·obtain⟨j',rfl⟩:=Nat.exists_eq_add_one_of_ne_zero j0;subst i0;rw[h0,h1 _ (by lia)]at e
    exact absurd e.symm (cne _ (by lia))
  ·obtain⟨i',rfl⟩:=Nat.exists_eq_add_one_of_ne_zero i0;by_cases j0:j=0
   ·subst j0;rw[h0,h1 _ (by lia)]at e
    exact absurd e (cne _ (by lia))
   ·obtain⟨j',rfl⟩:=Nat.exists_eq_add_one_of_ne_zero j0;rw[h1 _ (by lia),h1 _ (by lia)]at e
    have:=F.inj _ _ (by lia) (by lia) e
    lia
 ·
  by_cases i0:i=0
  ·subst i0;have e1:=g0;have e2:nx (n+1) (0+1)=1+1:=by rw[new _ (by lia),if_neg (by lia)]
   rw[e1,e2,h0,h1 _ (by lia),h1 _ (by lia)]
   intro k
   have:=F.nob (n-1) pn
   have f1:=F9;have f2:=F8;rw[f1,f2]at this;exact this (Back.sub hc k)
  ·obtain⟨i',rfl⟩:=Nat.exists_eq_add_one_of_ne_zero i0;by_cases i1:i'=n-1
   ·subst i1;have e1:nx (n+1) (n-1+1)=0:=by rw[new _ (by lia),if_pos (by lia)]
    have e2:=g0;rw[e1,e2,h0,h1 _ (by lia),h1 _ (by lia)]
    exact hc.noback n0
   by_cases i2:i'=n-2
   ·subst i2;have e1:nx (n+1) (n-2+1)=n-1+1:=by rw[new _ (by lia),if_neg (by lia)];lia
    have e2:nx (n+1) (n-1+1)=0:=by rw[new _ (by lia),if_pos (by lia)]
    rw[e1,e2,h0,h1 _ (by lia),h1 _ (by lia)]
    intro k
    have:=F.nob (n-2) (by lia)
    have f1:nx n (n-2)=n-1:=by unfold nx;rw[if_neg (by lia)];lia
    have f2:=F9;rw[f1,f2]at this;exact this (Back.sub hc.swap k.symm).symm
   ·have e1:nx (n+1) (i'+1)=(i'+1)+1:=by rw[new _ (by lia),if_neg (by lia)]
    have e2:nx (n+1) (i'+1+1)=(i'+2)+1:=by rw[new _ (by lia),if_neg (by lia)]
    rw[e1,e2,h1 _ (by lia),h1 _ (by lia),h1 _ (by lia)]
    have:=F.nob i' (by lia)
    have f1:nx n i'=i'+1:=by unfold nx;rw[if_neg (by lia)]
    have f2:nx n (i'+1)=i'+2:=by unfold nx;rw[if_neg (by lia)]
    rw[f1,f2]at this;exact this
 ·
  have f0:=F9;have gn:nx (n+1) n=0:=by rw[new _ (by lia),if_pos (by lia)]
  have hRn:R n=P (n-1):=by have:=h1 (n-1) (by lia);rwa [show n-1+1=n by lia]at this
  have main:∀i j,i<n+1->j<n+1->i≠j->nx (n+1) i≠j->nx (n+1) j≠i->i<j->¬ba (R i) (R (nx (n+1) i)) (R j) (R (nx (n+1) j)):=by
   intro i j hi hj k1 k2 k3 hij;by_cases i0:i=0
   ·
    subst i0;rw[g0]at k2 ⊢;rw[h0,h1 _ (by lia)]
    obtain⟨j',rfl⟩:∃j',j=j'+1:=⟨j-1,by lia⟩
    have j1:j'+1≠n:=fun e=>by rw[e,gn]at k3;exact k3 rfl
    have e1:nx (n+1) (j'+1)=(j'+1)+1:=by rw[new _ (by lia),if_neg (by lia)]
    rw[e1,h1 _ (by lia),h1 _ (by lia)]
    by_cases j2:j'+1=n-1
    ·
     have:=F.nob j' (by lia)
     have f1:nx n j'=n-1:=by unfold nx;rw[if_neg (by lia)];lia
     rw[f1,f0]at this;intro m;rw[j2]at m;refine kD (p:=P 0) (c:=P (n-1)) (q:=P j') (r:=c) (fun e=>?_) (fun k=>this k.symm) hc.swap (fun e=>n0 e.symm) m.swap1.swap2
     have:=F.inj _ _ (by lia) (by lia) e;lia
    ·intro m;have f1:nx n j'=j'+1:=by unfold nx;rw[if_neg (by lia)]
     have:=F.nom (n-1) j' (by lia) (by lia) (by lia) (by rw[f0];lia) (by rw[f1];lia)
     rw[f0,f1]at this;exact this (ba.sub hc.swap m.swap1).swap1
   ·obtain⟨i',rfl⟩:∃i',i=i'+1:=⟨i-1,by lia⟩
    obtain⟨j',rfl⟩:∃j',j=j'+1:=⟨j-1,by lia⟩
    have e2:nx (n+1) (i'+1)=(i'+1)+1:=by rw[new _ (by lia),if_neg (by lia)]
    have f2:nx n i'=i'+1:=by unfold nx;rw[if_neg (by lia)]
    rw[e2]at k2 ⊢;rw[h1 _ (by lia),h1 _ (by lia)]
    by_cases j1:j'+1=n
    ·
     rw[j1,gn,hRn,h0];intro m;by_cases i1:i'=0
     ·subst i1
      have:=F.nob (n-1) pn
      rw[f0,f2]at this;refine kD (p:=P (n-1)) (c:=P 0) (q:=P (0+1)) (r:=c) (fun e=>?_) this hc n0 m.symm
      have:=F.inj _ _ (by lia) (by lia) e;lia
     ·have:=F.nom (n-1) i' (by lia) (by lia) (by lia) (by rw[f0];lia) (by rw[f2];lia)
      rw[f0,f2]at this;exact this (ba.sub hc m.symm)
    ·have e1:nx (n+1) (j'+1)=(j'+1)+1:=by rw[new _ (by lia),if_neg (by lia)]
     rw[e1]at k3 ⊢;rw[h1 _ (by lia),h1 _ (by lia)]
     have f1:nx n j'=j'+1:=by unfold nx;rw[if_neg (by lia)]
     have:=F.nom i' j' (by lia) (by lia) (by lia) (by rw[f2];lia) (by rw[f1];lia)
     rw[f1,f2]at this;exact this
  rcases Nat.lt_or_gt_of_ne k1 with g|g
  ·exact main i j hi hj k1 k2 k3 g
  ·intro m;exact main j i hj hi (fun e=>k1 e.symm) k3 k2 g m.symm
theorem aZ.cons{cs:List Pt}(F:aZ cs)(DU:cs.length<=11){c:Pt}(hc:bg (at' cs (cs.length-1)) (at' cs 0) c):aZ (c::cs):=by
 refine⟨by have:=F.lo;rw[Zd];lia,by rw[Zd];lia,?_⟩
 rw[Zd];exact F.ok.insert F.lo hc rfl (fun i _=>rfl)
theorem aZ.flat{A B:List Pt}(F:aZ (A++B))(DU:(A++B).length<=11){c:Pt}(hc:bg (at' (B++A) ((A++B).length-1)) (at' (B++A) 0) c):aZ (A++[c]++B):=by
 have hl:(B++A).length=(A++B).length:=by simp only[Z5];lia
 have:=F.rot.cons (by lia) (c:=c) (by rw[hl];exact hc)
 have h2:aZ ((c::B)++A):=by rw[Xn];exact this
 have h3:=h2.rot;rw[Zf];exact h3
end FF
end
section
namespace FF
noncomputable def cr(p q:Pt):Int:=p.1*q.2-q.1*p.2
noncomputable def pa(p:Pt):List Pt->Pt->Int
 | [],f=>cr p f
 |q::r,f=>cr p q+pa q r f
noncomputable def area:List Pt->Int
 | []=>0
 |c::r=>pa c r c
theorem jA:∀(r:List Pt) (p q:Pt) (r':List Pt) (f:Pt),pa p (r++q::r') f=pa p r q+pa q r' f
 | [],p,q,r',f=>rfl
 |x::r,p,q,r',f=>by
  show cr p x+pa x (r++q::r') f=cr p x+pa x r q+pa q r' f;rw[jA r x q r' f];lia
theorem fz:∀(A B:List Pt),area (A++B)=area (B++A)
 | [],B=>by rw[Y6,ZJ]
 |a::A,[]=>by rw[Y6,ZJ]
 |a::A,b::B=>by
  show pa a (A++b::B) a=pa b (B++a::A) b;rw[jA,jA];lia
theorem mK(p q:Pt):cr q p=- cr p q:=by unfold cr;grind
theorem v_:∀(r:List Pt) (p f:Pt),pa f r.reverse p=- pa p r f
 | [],p,f=>mK p f
 |x::r,p,f=>by
  rw[Y9,jA,v_ r x f]
  show-pa x r f+cr x p=-(cr p x+pa x r f)
  rw[mK p x];lia
theorem g_:∀(A:List Pt),area A.reverse=- area A
 | []=>rfl
 |a::A=>by
  rw[Y9,fz];show pa a A.reverse a=- pa a A a;exact v_ A a a
theorem wm(T:Tn):∀(r:List Pt) (p f:Pt),pa (T.led p) (r.map T.led) (T.led f)=T.det*pa p r f +
  ((T.e*(T.c*f.1+T.d*f.2)-T.f*(T.a*f.1+T.b*f.2))-(T.e*(T.c*p.1+T.d*p.2)-T.f*(T.a*p.1+T.b*p.2)))
 | [],p,f=>by
  show cr (T.led p) (T.led f)=_;simp only[pa,cr,Tn.led,Tn.det];grind
 |x::r,p,f=>by
  show cr (T.led p) (T.led x)+pa (T.led x) (r.map T.led) (T.led f)=T.det*(cr p x+pa x r f)+_;rw[wm T r x f];generalize pa x r f=z;simp only[cr,Tn.led,Tn.det];grind
theorem xp(T:Tn):∀A:List Pt,area (A.map T.led)=T.det*area A
 | []=>by show (0:Int)=T.det*0;lia
 |a::A=>by
  show pa (T.led a) (A.map T.led) (T.led a)=T.det*pa a A a;rw[wm];lia
noncomputable def dL(p:Pt):List Pt->Pt
 | []=>p
 |q::r=>dL q r
theorem su:∀(r:List Pt) (p f g:Pt),pa p r f-cr (dL p r) f=pa p r g-cr (dL p r) g
 | [],p,f,g=>by simp only[pa,dL];lia
 |x::r,p,f,g=>by
  have:=su r x f g
  simp only[pa,dL];lia
theorem kO:∀(r:List Pt) (p:Pt),at' (p::r) r.length=dL p r
 | [],p=>rfl
 |x::r,p=>by
  show at' (x::r) r.length=dL x r;exact kO r x
theorem On.cr{p q c:Pt}(h:On p q c):cr p c+FF.cr c q=FF.cr p q:=by
 have:=h.turn
 unfold FF.turn at this;unfold FF.cr;grind
theorem vJ{cs:List Pt}{c:Pt}(h0:cs≠[])(hc:On (at' cs (cs.length-1)) (at' cs 0) c):area (c::cs)=area cs:=by
 match cs,h0 with
 |q::r,_=>
  have e1:at' (q::r) ((q::r).length-1)=dL q r:=by
   rw[Zd,Nat.add_sub_cancel];exact kO r q
  rw[e1]at hc;have e2:at' (q::r) 0=q:=rfl;rw[e2]at hc;have k:=hc.cr;have l:=su r q c q;show cr c q+pa q r c=pa q r q;lia
theorem v6{A B:List Pt}{c:Pt}(h0:A++B≠[])(hc:On (at' (B++A) ((A++B).length-1)) (at' (B++A) 0) c):area (A++[c]++B)=area (A++B):=by
 have hl:(B++A).length=(A++B).length:=by simp only[Z5];lia
 rw[Zf,fz A ([c]++B),fz A B];show area (c::(B++A))=_;refine vJ ?_ (by rw[hl];exact hc)
 intro e
 have:=congrArg Xx e
 rw[hl]at this;exact h0 (Yd this)
structure Col where
 x:Int
 l:Int
 u:Int
noncomputable def Col.lo(c:Col):Pt:=(c.x,c.l)
noncomputable def Col.hi(c:Col):Pt:=(c.x,c.u)
noncomputable def loop(c:Col):List Col->Int
 | []=>cr c.lo c.hi
 |d::r=>cr c.lo d.lo+loop d r+cr d.hi c.hi
noncomputable def gZ(c:Col):List Col->Prop
 | []=>True
 |d::r=>c.x<d.x/\c.l<=c.u/\d.l<=d.u/\c.l+d.l<c.u+d.u/\gZ d r
theorem pR:∀(r:List Col) (c:Col),gZ c r->r≠[]->0<loop c r-cr c.lo c.hi
 | [d],c,⟨h1,h2,h3,h4,_⟩,_=>by
  have q:=Int.mul_pos (show 0<d.x-c.x by lia) (show 0<(c.u+d.u)-(c.l+d.l) by lia)
  have e:loop c [d]-cr c.lo c.hi=(d.x-c.x)*((c.u+d.u)-(c.l+d.l)):=by
   simp only[loop,cr,Col.lo,Col.hi];grind
  lia
 |d::d'::r,c,⟨h1,h2,h3,h4,h5⟩,_=>by
  have ih:=pR (d'::r) d h5 (by simp)
  have q:=Int.mul_pos (show 0<d.x-c.x by lia) (show 0<(c.u+d.u)-(c.l+d.l) by lia)
  have e:loop c (d::d'::r)-cr c.lo c.hi=(loop d (d'::r)-cr d.lo d.hi)+(d.x-c.x)*((c.u+d.u)-(c.l+d.l)):=by
   show cr c.lo d.lo+loop d (d'::r)+cr d.hi c.hi-cr c.lo c.hi=_;generalize loop d (d'::r)=z;simp only[cr,Col.lo,Col.hi];grind
  lia
theorem sk:∀(r:List Col) (c:Col) (f:Pt),pa c.lo (r.map Col.lo++(c::r).reverse.map Col.hi) f=loop c r+cr c.hi f
 | [],c,f=>by simp only[W4,Y6,Y9,Ul,ZI,pa,loop]
 |d::r,c,f=>by
  have ih:=sk r d c.hi;have e:(d::r).map Col.lo++(c::d::r).reverse.map Col.hi=d.lo::((r.map Col.lo++(d::r).reverse.map Col.hi)++[c.hi]):=by
   rw[Y9 (a:=c),ZL,ZI,Xn,Zf];rfl
  rw[e];show cr c.lo d.lo+pa d.lo (_++[c.hi]) f=_;rw[jA,ih];show _+(loop d r+cr d.hi c.hi+cr c.hi f)=cr c.lo d.lo+loop d r+cr d.hi c.hi+cr c.hi f;lia
theorem zJ(p:Pt):cr p p=0:=by unfold cr;lia
theorem vp{c:Col}{r:List Col}(h:gZ c r)(hr:r≠[]):0<area ((c::r).map Col.lo++(c::r).reverse.map Col.hi):=by
 show 0<pa c.lo (r.map Col.lo++(c::r).reverse.map Col.hi) c.lo;rw[sk,mK c.lo c.hi]
 have:=pR r c h hr
 lia
theorem pE(A B:List Pt)(p:Pt):area (A++p::p::B)=area (A++p::B):=by
 rw[fz,fz A];show cr p p+pa p (B++A) p=pa p (B++A) p;rw[zJ];lia
end FF
end
section
namespace FF
noncomputable def kN(a c b:Pt):Int:=(a.1-c.1)*(b.1-c.1)+(a.2-c.2)*(b.2-c.2)
noncomputable def gx(a c b:Pt):Bool:=turn a c b==0&&decide (0<kN a c b)
theorem li{a c b:Pt}(hb:b≠c):Back a c b↔gx a c b=true:=by
 unfold gx;rw[Zc,beq_iff_eq,decide_eq_true_eq];have nb:¬(b.1-c.1=0/\b.2-c.2=0):=fun e=>hb (Yy (by lia) (by lia))
 have hn:=pL nb;constructor
 ·intro ⟨s,t,hs,ht,e1,e2⟩;constructor
  ·apply bw hs;unfold turn
   have:s*((c.1-a.1)*(b.2-a.2)-(c.2-a.2)*(b.1-a.1))=-(s*(a.1-c.1))*(b.2-c.2)+(s*(a.2-c.2))*(b.1-c.1):=by grind
   rw[this,e1,e2];grind
  ·apply bC hs
   have:s*kN a c b=t*((b.1-c.1)*(b.1-c.1)+(b.2-c.2)*(b.2-c.2)):=by
    have e:s*kN a c b=(s*(a.1-c.1))*(b.1-c.1)+(s*(a.2-c.2))*(b.2-c.2):=by unfold kN;grind
    rw[e,e1,e2];grind
   rw[this];exact Int.mul_pos ht hn
 ·intro ⟨h1,h2⟩;refine⟨_,_,hn,h2,?_,?_⟩
  ·unfold turn at h1;unfold kN;grind
  ·unfold turn at h1;unfold kN;grind
noncomputable def fU(a n b:Int):Bool:=decide (a<=n/\n<=b)||decide (b<=n/\n<=a)
noncomputable def dQ(a b c:Pt):Bool:=fU a.1 c.1 b.1&&fU a.2 c.2 b.2&&(turn a b c==0)
theorem ln{a b c:Pt}:On a b c↔dQ a b c=true:=by
 unfold dQ fU;simp only[Zc,Xz,decide_eq_true_eq,beq_iff_eq];constructor
 ·intro h;exact⟨⟨h.btw1,h.btw2⟩,h.turn⟩
 ·intro ⟨⟨h1,h2⟩,h3⟩;exact uy h3 h1 h2
noncomputable def iK(a b c d:Pt):Bool:=decide (turn a b c*turn a b d<0)
noncomputable def cy(a b c d:Pt):Bool:=dQ a b c||dQ a b d||dQ c d a||dQ c d b||(iK a b c d&&iK c d a b)
theorem ib{a b c d:Pt}:ba a b c d↔cy a b c d=true:=by
 unfold cy iK;simp only[Zc,Xz,decide_eq_true_eq,<-ln];constructor
 ·intro h;rcases tW h with h|h|h|h|h
  ·exact .inl (.inl (.inl (.inl h)))
  ·exact .inl (.inl (.inl (.inr h)))
  ·exact .inl (.inl (.inr h))
  ·exact .inl (.inr h)
  ·exact .inr h
 ·intro h;rcases h with (((h|h)|h)|h)|⟨h,k⟩
  ·exact h.meet1
  ·exact h.meet2
  ·exact h.meet3
  ·exact h.meet4
  ·exact oy h k
noncomputable def jT(cs:List Pt):Bool:=
 let n:=cs.length
 decide (3<=n)&&decide (n<=12)&&
 (Z4 n).all (fun i=>(Z4 n).all fun j=>(i==j)||!(at' cs i==at' cs j))&&
 (Z4 n).all (fun i=>!gx (at' cs i) (at' cs (nx n i)) (at' cs (nx n (nx n i))))&&
 (Z4 n).all (fun i=>(Z4 n).all fun j=>(i==j)||(nx n i==j)||(nx n j==i)||!cy (at' cs i) (at' cs (nx n i)) (at' cs j) (at' cs (nx n j)))
theorem jg{cs:List Pt}(h:jT cs=true):aZ cs:=by
 unfold jT at h;simp only[Zc,decide_eq_true_eq,Y5,Zt,Xz,beq_iff_eq,Ym]at h;obtain⟨⟨⟨⟨h1,h2⟩,h3⟩,h4⟩,h5⟩:=h;have inj:∀i j,i<cs.length->j<cs.length->at' cs i=at' cs j->i=j:=by
  intro i j hi hj e;rcases h3 i hi j hj with q|q
  ·exact q
  ·exact absurd e (YW.mp q)
 refine⟨h1,h2,inj,?_,?_⟩
 ·intro i hi k
  have:=h4 i hi
  rw[li]at k
  ·rw[k]at this;exact ZR this
  ·intro e
   have:=inj _ _ (aH (aH hi)) (aH hi) e
   unfold nx at this
   (repeat' split at this)<;>lia
 ·intro i j hi hj k1 k2 k3 k;rcases h5 i hi j hj with ((q|q)|q)|q
  ·exact k1 q
  ·exact k2 q
  ·exact k3 q
  ·rw[ib.mp k]at q;exact ZR q
structure Good(cs:List Pt):Prop where
 fe:aZ cs
 ar:area cs≠0
theorem Good.rot{A B:List Pt}(G:Good (A++B)):Good (B++A):=⟨G.fe.rot,by rw[fz];exact G.ar⟩
theorem Good.turnBy{A:List Pt}(G:Good A)(t:Nat):Good (A.drop t++A.take t):=by
 have:Good (A.take t++A.drop t):=by rw[Zk];exact G
 exact this.rot
theorem Good.rev{A:List Pt}(G:Good A):Good A.reverse:=⟨G.fe.rev,by rw[g_];have:=G.ar;lia⟩
theorem Good.led{A:List Pt}(G:Good A){T:Tn}(h:T.det≠0):Good (A.map T.led):=
 ⟨(ow h).mpr G.fe,by rw[xp];intro e;rcases Int.mul_eq_zero.mp e with q|q;exact h q;exact G.ar q⟩
noncomputable def j9:Tn:=⟨0,1,1,0,0,0⟩
noncomputable def swp(p:Pt):Pt:=(p.2,p.1)
theorem Good.swap{A:List Pt}(G:Good A):Good (A.map swp):=by
 have e:swp=j9.led:=by
  funext p
  simp only[swp,j9,Tn.led];exact Yy (by simp) (by simp)
 rw[e];exact G.led (by decide)
noncomputable def cell(ns:List Int)(k:Nat):Int:=ns.getD k 0
noncomputable def draw(c k bound:Int):Int:=((c%2147483647+977*k+1)*48271%2147483647+40692*(k+3))*69621%2147483629/8%bound
theorem cq(c k:Int){b:Int}(h:0<b):0<=draw c k b/\draw c k b<b:=⟨Int.emod_nonneg _ (by lia),Int.emod_lt_of_pos _ h⟩
noncomputable def xAt(c:Int):Nat->Int
 |0=>0
 |k+1=>xAt c k+1+draw c k 3
noncomputable def b_(c:Int)(k:Nat):Int:=draw c k 9-4
noncomputable def bp(c d:Int)(k:Nat):Int:=b_ c k+1+draw d k 5
theorem iL(c:Int):∀{i j:Nat},i<j->xAt c i<xAt c j:=by
 have one:∀k,xAt c k<xAt c (k+1):=fun k=>by
  have:=cq c k (show (0:Int)<3 by decide)
  simp only[xAt];lia
 intro i j h
 induction j with
 |zero=>lia
 |succ j ih=>
  by_cases e:i=j
  ·subst e;exact one i
  ·exact Int.lt_trans (ih (by lia)) (one j)
noncomputable def joined(lows highs:List Pt)(af:Int):List Pt:=
 let top:=if af%2=1 then highs.eraseIdx 0 else highs
 let top2:=if af>1/\lows.length+top.length>3 then top.dropLast else top
 lows++top2.reverse
noncomputable def loL(m:Nat)(x l:Nat->Int):List Pt:=(Z4 m).map fun k=>(x k,l k)
theorem aK{m:Nat}{x l:Nat->Int}:(loL m x l).length=m:=by unfold loL;rw[Z7,Y2]
theorem bZ{m:Nat}{x l:Nat->Int}{k:Nat}(h:k<m):at' (loL m x l) k=(x k,l k):=by
 unfold at' loL;rw[Z2,Zj,YY h];rfl
theorem br{A:List Pt}{k i:Nat}:at' (A.drop k) i=at' A (k+i):=by
 unfold at';rw[Z2,Xi,Z2]
theorem bE{A:List Pt}{k i:Nat}(h:i<k):at' (A.take k) i=at' A i:=by
 unfold at';rw[Z2,YA h,Z2]
theorem jo{A:List Pt}{i:Nat}(h:i<A.length):at' A.reverse i=at' A (A.length-1-i):=by
 unfold at';rw[Z2,XB h,Z2]
theorem dY{A B:List Pt}(hl:A.length=B.length)(h:∀i,i<A.length->at' A i=at' B i):A=B:=by
 apply Wq hl;intro i h1 h2
 have:=h i h1
 unfold at' at this;rw[Z2,Z2,Z3 h1,Z3 h2]at this;exact this
theorem ip{m:Nat}{x l h:Nat->Int}{af:Int}(m2:2<=m):∃a b:Nat,a<=1/\b<=1/\3<=2*m-a-b/\
  joined (loL m x l) (loL m x h) af=loL m x l++(((loL m x h).drop a).take (m-a-b)).reverse:=by
 have e1:(if af%2=1 then (loL m x h).eraseIdx 0 else loL m x h)=(loL m x h).drop (if af%2=1 then 1 else 0):=by
  split
  ·rw[YN,VS]
  ·rw[Va]
 have ha:(if af%2=1 then 1 else 0)<=1:=by split<;>lia
 unfold joined;rw[e1];generalize (if af%2=1 then 1 else 0)=a at ha
 have hl:((loL m x h).drop a).length=m-a:=by rw[Zp,aK]
 simp only[hl,aK];by_cases c:af>1/\m+(m-a)>3
 ·refine⟨a,1,ha,by lia,by lia,?_⟩
  rw[if_pos c,X7,hl]
 ·by_cases c2:af>1
  ·refine⟨a,0,ha,by lia,by lia,?_⟩
   rw[if_neg c,W9 (by lia)]
  ·refine⟨a,0,ha,by lia,by lia,?_⟩
   rw[if_neg c,W9 (by lia)]
theorem gi{m a b:Nat}{x h:Nat->Int}(ha:a+b<=m):(((loL m x h).drop a).take (m-a-b)).length=m-a-b:=by
 rw[Za,Zp,aK];lia
theorem jS{m a b:Nat}{x l h:Nat->Int}(C:cI m a b x l h){i:Nat}(hi:i<2*m-a-b):
  at' (loL m x l++(((loL m x h).drop a).take (m-a-b)).reverse) i=bO m b x l h i:=by
 have:=C.m2;have:=C.a1;have:=C.b1
 rw[bf,aK];unfold bO
 split
 ·rw[bZ (by assumption)]
 ·have hl:(((loL m x h).drop a).take (m-a-b)).length=m-a-b:=gi (by lia)
  rw[jo (by lia),hl,bE (by lia),br,bZ (by lia)]
  have:a+(m-a-b-1-(i-m))=2*m-1-b-i:=by lia
  rw[this]
theorem g7(x l u:Nat->Int):∀(m k:Nat),(∀i,k<=i->i<k+m->x i<x (i+1)/\l i<=u i/\l (i+1)<=u (i+1)/\l i+l (i+1)<u i+u (i+1))->
  gZ ⟨x k,l k,u k⟩ ((W1 (k+1) m).map fun k=>(⟨x k,l k,u k⟩:Col))
 |0,k,_=>trivial
 |m+1,k,H=>by
  rw[Wr,ZI];have h0:=H k (Nat.le_refl _) (by lia)
  refine⟨h0.1,h0.2.1,h0.2.2.1,h0.2.2.2,?_⟩;exact g7 x l u m (k+1) (fun i h1 h2=>H i (by lia) (by lia))
theorem n_{m a b:Nat}{x l h:Nat->Int}(C:cI m a b x l h):0<area (loL m x l++(loL m x (up m a b l h)).reverse):=by
 have m2:=C.m2;have e:loL m x l++(loL m x (up m a b l h)).reverse=((⟨x 0,l 0,up m a b l h 0⟩:Col)::(W1 1 (m-1)).map fun k=>(⟨x k,l k,up m a b l h k⟩:Col)).map Col.lo++
   ((⟨x 0,l 0,up m a b l h 0⟩:Col)::(W1 1 (m-1)).map fun k=>(⟨x k,l k,up m a b l h k⟩:Col)).reverse.map Col.hi:=by
  have q:∀f:Nat->Int,loL m x f=(x 0,f 0)::(W1 1 (m-1)).map fun k=>(x k,f k):=by
   intro f;unfold loL;rw[Wh,show m=(m-1)+1 by lia,Wr,ZI]
   rfl
  rw[q,q,<-YO.symm,ZI,ZI,Yl,Yl]
  rfl
 rw[e];refine vp ?_ ?_
 ·refine g7 x l (up m a b l h) (m-1) 0 ?_;intro i _ hi;have lh0:=C.lh i (by lia)
  have lh1:=C.lh (i+1) (by lia)
  have n3:=C.n3;have:=C.a1;have:=C.b1;refine⟨C.xs i (i+1) (by lia) (by lia),?_,?_,?_⟩
  ·unfold up;split<;>lia
  ·unfold up;split<;>lia
  ·unfold up;split<;>split<;>lia
 ·intro q
  have:=congrArg Xx q
  simp at this;lia
theorem kF{m a b:Nat}{x l h:Nat->Int}(C:cI m a b x l h):area (loL m x l++(((loL m x h).drop a).take (m-a-b)).reverse)=area (loL m x l++(loL m x (up m a b l h)).reverse):=by
 have m2:=C.m2;have a1:=C.a1;have b1:=C.b1;have n3:=C.n3
 let mid:List Pt:=((loL m x h).drop 1).take (m-2)
 have midl:mid.length=m-2:=by show (VI _ _).length=_;rw[Za,Zp,aK];lia
 have midat:∀i,i<m-2->at' mid i=(x (i+1),h (i+1)):=by
  intro i hi;show at' (VI _ _) i=_;rw[bE hi,br,bZ (by lia),Nat.add_comm 1 i]
 have top:((loL m x h).drop a).take (m-a-b)=(if a=1 then [] else [(x 0,h 0)])++(mid++(if b=1 then [] else [(x (m-1),h (m-1))])):=by
  have hl:=gi (m:=m) (a:=a) (b:=b) (x:=x) (h:=h) (by lia)
  apply dY
  ·rw[hl,Z5,Z5,midl]
   split<;>split<;>simp<;>lia
  ·intro i hi;rw[hl]at hi;rw[bE hi,br,bZ (by lia),bf]
   by_cases c:a=1
   ·rw[if_pos c];rw[if_neg (by simp),bf,midl]
    simp only[YV,Nat.sub_zero];by_cases c2:i<m-2
    ·rw[if_pos c2,midat i c2,c,Nat.add_comm]
    ·rw[if_neg c2,if_neg (by lia)]
     have:i-(m-2)=0:=by lia
     rw[this]
     have:a+i=m-1:=by lia
     rw[this];rfl
   ·rw[if_neg c];have a0:a=0:=by lia
    subst a0;by_cases c1:i=0
    ·subst c1;rfl
    ·rw[if_neg (by simp only[Yn];lia),bf,midl]
     simp only[Yn,Nat.zero_add];by_cases c2:i-1<m-2
     ·rw[if_pos c2,midat _ c2,show i-1+1=i by lia]
     ·rw[if_neg c2,if_neg (by lia)]
      have:i-1-(m-2)=0:=by lia
      rw[this]
      have:i=m-1:=by lia
      rw[this];rfl
 have full:loL m x (up m a b l h)=(x 0,up m a b l h 0)::(mid++[(x (m-1),up m a b l h (m-1))]):=by
  apply dY
  ·rw[aK,Zd,Z5,midl];simp;lia
  ·intro i hi;rw[aK]at hi;rw[bZ hi];by_cases c1:i=0
   ·subst c1;rfl
   ·obtain⟨j,rfl⟩:∃j,i=j+1:=⟨i-1,by lia⟩
    show _=at' (mid++_) j;rw[bf,midl];by_cases c2:j<m-2
    ·rw[if_pos c2,midat _ c2];unfold up;rw[if_neg (by lia)]
    ·rw[if_neg c2];have e2:j+1=m-1:=by lia
     rw[e2]
     have:j-(m-2)=0:=by lia
     rw[this];rfl
 have low:loL m x l=(x 0,l 0)::(loL m x l).tail:=by
  have hl:(loL m x l).length=m:=aK
  match q:loL m x l,hl with
  | [],hl=>exact absurd hl (by simp only[YV];lia)
  |p::r,_=>
   have:=bZ (m:=m) (x:=x) (l:=l) (k:=0) (by lia)
   rw[q]at this;have e:p=(x 0,l 0):=this;rw[e];rfl
 have lowE:loL m x l=(loL m x l).dropLast++[(x (m-1),l (m-1))]:=by
  apply dY
  ·rw[Z5,Y_,aK];simp;lia
  ·intro i hi;rw[aK]at hi;rw[bf,Y_,aK,X7,aK];by_cases c:i<m-1
   ·rw[if_pos c,bE c]
   ·rw[if_neg c,bZ hi]
    have:i=m-1:=by lia
    rw[this,Nat.sub_self];rfl
 rw[top,full];have stepB:∀Z:List Pt,area (loL m x l++((if b=1 then [] else [(x (m-1),h (m-1))])++Z))=area (loL m x l++((x (m-1),up m a b l h (m-1))::Z)):=by
  intro Z;by_cases c:b=1
  ·rw[if_pos c,Y6];have e:up m a b l h (m-1)=l (m-1):=by unfold up;rw[if_pos (by lia)]
   rw[e,lowE,Zf,Zf];exact (pE _ _ _).symm
  ·rw[if_neg c];have e:up m a b l h (m-1)=h (m-1):=by unfold up;rw[if_neg (by lia)]
   rw[e];rfl
 have stepA:∀Z:List Pt,area (loL m x l++(Z++(if a=1 then [] else [(x 0,h 0)])))=area (loL m x l++(Z++[(x 0,up m a b l h 0)])):=by
  intro Z;by_cases c:a=1
  ·rw[if_pos c,ZJ];have e:up m a b l h 0=l 0:=by unfold up;rw[if_pos (by lia)]
   rw[e,<-Zf,fz (loL m x l++Z),low];exact (pE [] _ _).symm
  ·rw[if_neg c];have e:up m a b l h 0=h 0:=by unfold up;rw[if_neg (by lia)]
   rw[e]
 have rA:(if a=1 then ([]:List Pt) else [(x 0,h 0)]).reverse=if a=1 then [] else [(x 0,h 0)]:=by split<;>rfl
 have rB:(if b=1 then ([]:List Pt) else [(x (m-1),h (m-1))]).reverse=if b=1 then [] else [(x (m-1),h (m-1))]:=by split<;>rfl
 rw[YZ,YZ,rA,rB,Y9,YZ,Vt];rw[stepA,Zf,stepB,Zf,Xn,Y6]
theorem iG{m:Nat}{x l h:Nat->Int}{af:Int}(m2:2<=m)(m6:m<=6)(xs:∀i j,i<j->j<m->x i<x j)(lh:∀i,i<m->l i<h i):
  Good (joined (loL m x l) (loL m x h) af):=by
 obtain⟨a,b,ha,hb,n3,e⟩:=ip (x:=x) (l:=l) (h:=h) (af:=af) m2;rw[e];have C:cI m a b x l h:=⟨m2,m6,ha,hb,n3,xs,lh⟩;have hl:(loL m x l++(((loL m x h).drop a).take (m-a-b)).reverse).length=2*m-a-b:=by
  rw[Z5,aK,ZA,gi (by lia)];lia
 refine⟨⟨by rw[hl];exact n3,by rw[hl];lia,?_⟩,?_⟩
 ·rw[hl];exact nP C rfl (fun i hi=>jS C hi)
 ·rw[kF C]
  have:=n_ C
  lia
noncomputable def spiral(c:Int):List Pt:=
 let w:=5+c%3
 let h:=6+c/3%3
 [(0,0),(w,0),(w,h),(0,h),(0,3),(w-3,3)]++[(w-3,4),(1,4),(1,h-1),(w-1,h-1),(w-1,1),(0,1)]
noncomputable def du(w h:Int):List Pt:=[(0,0),(w,0),(w,h),(0,h),(0,3),(w-3,3)]++[(w-3,4),(1,4),(1,h-1),(w-1,h-1),(w-1,1),(0,1)]
theorem t_:((Z4 3).all fun i=>(Z4 3).all fun j=>jT (du (5+(i:Int)) (6+(j:Int)))&&decide (area (du (5+(i:Int)) (6+(j:Int)))≠0))=true:=by decide +kernel
theorem iD(c:Int):Good (spiral c):=by
 have h:=t_;simp only[Y5,Zt,Zc,decide_eq_true_eq]at h;have q:=h (c%3).toNat (by lia) (c/3%3).toNat (by lia)
 have e1:(((c%3).toNat:Nat):Int)=c%3:=by lia
 have e2:(((c/3%3).toNat:Nat):Int)=c/3%3:=by lia
 rw[e1,e2]at q;exact⟨jg q.1,q.2⟩
noncomputable def iC(x y:Int):List Int:=((Z4 18).map fun k=>((2+k:Nat):Int)).filter fun k=>x%k==0&&y%k==0
noncomputable def flat(cs:List Pt)(c:Int):List Pt:=
 let at_:=(c%cs.length).toNat
 let one:=at' cs (if at_=0 then cs.length-1 else at_-1)
 let x:=(at' cs at_).1-one.1
 let y:=(at' cs at_).2-one.2
 match (iC x y).getLast? with
 |none=>cs
 |some g=>if cs.length>11 then cs else
  cs.take at_++[(one.1+x/g*(1+c/12%(g-1)),one.2+y/g*(1+c/12%(g-1)))]++cs.drop at_
theorem gl{x y g:Int}(h:g∈iC x y):2<=g/\x%g=0/\y%g=0:=by
 unfold iC at h;rw[ZG,Yu]at h;obtain⟨⟨k,hk,rfl⟩,h2⟩:=h;simp only[Zc,beq_iff_eq]at h2;exact⟨by lia,h2.1,h2.2⟩
theorem fj{p q:Pt}{g k:Int}(g2:2<=g)(hx:(q.1-p.1)%g=0)(hy:(q.2-p.2)%g=0)(k1:1<=k)(k2:k<g):
  bg p q (p.1+(q.1-p.1)/g*k,p.2+(q.2-p.2)/g*k):=by
 have ex:g*((q.1-p.1)/g)=q.1-p.1:=Int.mul_ediv_cancel' (Int.dvd_of_emod_eq_zero hx);have ey:g*((q.2-p.2)/g)=q.2-p.2:=Int.mul_ediv_cancel' (Int.dvd_of_emod_eq_zero hy);refine⟨g-k,k,by lia,by lia,?_,?_⟩
 ·generalize (q.1-p.1)/g=z at ex ⊢;simp only
  have:q.1=p.1+g*z:=by lia
  rw[this];grind
 ·generalize (q.2-p.2)/g=z at ey ⊢;simp only
  have:q.2=p.2+g*z:=by lia
  rw[this];grind
theorem Good.flat{cs:List Pt}(G:Good cs)(c:Int):Good (flat cs c):=by
 unfold FF.flat;have lo:=G.fe.lo;have hat:(c%cs.length).toNat<cs.length:=by
  have h1:=Int.emod_nonneg c (show (cs.length:Int)≠0 by lia)
  have h2:=Int.emod_lt_of_pos c (show (0:Int)<cs.length by lia)
  lia
 generalize (c%cs.length).toNat=t at hat;simp only
 split
 ·exact G
 ·rename_i g hg
  split
  ·exact G
  ·rename_i DU;have hm:=gl (YS hg);have k0:=Int.emod_nonneg (c/12) (show g-1≠0 by lia)
   have k1:=Int.emod_lt_of_pos (c/12) (show 0<g-1 by lia)
   have st:=fj hm.1 hm.2.1 hm.2.2 (k:=1+c/12%(g-1)) (by lia) (by lia)
   have G2:Good (cs.take t++cs.drop t):=by rw[Zk];exact G
   have hl:(cs.take t++cs.drop t).length=cs.length:=by rw[Zk]
   have a0:at' (cs.drop t++cs.take t) 0=at' cs t:=by
    rw[bf,Zp,if_pos (by lia),br,Nat.add_zero]
   have a1:at' (cs.drop t++cs.take t) (cs.length-1)=at' cs (if t=0 then cs.length-1 else t-1):=by
    rw[bf,Zp];by_cases z:t=0
    ·subst z;rw[if_pos (by lia),br,Nat.zero_add,if_pos rfl]
    ·rw[if_neg (by lia),if_neg z,bE (by lia)]
     congr 1;lia
   refine⟨G2.fe.flat (by lia) (by rw[hl,a0,a1];exact st),?_⟩
   rw[v6 (by intro e;have:=congrArg Xx e;rw[hl]at this;rw[YV]at this;lia) (by rw[hl,a0,a1];exact st.on),Zk]
   exact G.ar
noncomputable def bA(c:Int):Nat:=(2+c%5).toNat
noncomputable def bu(ns:List Int)(f:Nat):List Pt:=loL (bA (cell ns f)) (xAt (cell ns (f+3))) (b_ (cell ns (f+1)))
noncomputable def bj(ns:List Int)(f:Nat):List Pt:=loL (bA (cell ns f)) (xAt (cell ns (f+3))) (bp (cell ns (f+1)) (cell ns (f+2)))
noncomputable def bL(cs:List Pt)(c d:Int):List Pt:=if c/48%5=1 then spiral d else cs
noncomputable def cY(cs:List Pt)(c d:Int):List Pt:=if c/240%2=1 then flat cs d else cs
noncomputable def e7(cs:List Pt)(c:Int):List Pt:=cs.drop (c%cs.length).toNat++cs.take (c%cs.length).toNat
noncomputable def dz(cs:List Pt)(c:Int):List Pt:=if c/12%2=1 then cs.reverse else cs
noncomputable def gO(cs:List Pt)(c:Int):List Pt:=if c/24%2=1 then cs.map swp else cs
noncomputable def bK(ns:List Int)(f:Nat):List Pt:=
 let c:=cell ns f/20
 gO (dz (e7 (cY (bL (joined (bu ns f) (bj ns f) (cell ns f/5%4)) c (cell ns (f+1))) c (cell ns (f+2))) c) c) c
theorem qS(ns:List Int)(f:Nat):Good (bK ns f):=by
 have hm:2<=bA (cell ns f)/\bA (cell ns f)<=6:=by
  unfold bA;lia
 have g0:Good (joined (bu ns f) (bj ns f) (cell ns f/5%4)):=by
  refine iG hm.1 hm.2 (fun i j h _=>iL _ h) (fun i _=>?_)
  have:=cq (cell ns (f+2)) i (show (0:Int)<5 by decide)
  unfold bp;lia
 unfold bK;simp only;have g1:∀cs c d,Good cs->Good (bL cs c d):=by
  intro cs c d G;unfold bL;split;exact iD _;exact G
 have g2:∀cs c d,Good cs->Good (cY cs c d):=by
  intro cs c d G;unfold cY;split;exact G.flat _;exact G
 have g4:∀cs c,Good cs->Good (dz cs c):=by
  intro cs c G;unfold dz;split;exact G.rev;exact G
 have g5:∀cs c,Good cs->Good (gO cs c):=by
  intro cs c G;unfold gO;split;exact G.swap;exact G
 exact g5 _ _ (g4 _ _ ((g2 _ _ _ (g1 _ _ _ g0)).turnBy _))
end FF
end
section
namespace FD
open PySem L2 FF
noncomputable def top(i:Nat):Stmt:=PySem.Challenge.pw_fencefield_k15_whole_least_triangles.main.body.getD i (.Pass ⟨0,0,0,0⟩)
noncomputable abbrev uG:Stmt:=top 6
noncomputable abbrev kZ:Stmt:=top 7
noncomputable abbrev tO:Stmt:=top 8
noncomputable abbrev pM:Stmt:=top 9
noncomputable abbrev uA:Stmt:=top 10
noncomputable abbrev uO:Stmt:=top 11
noncomputable def Co(p:Pt):Prop:=(-(10^40)<=p.1/\p.1<=10^40)/\-(10^40)<=p.2/\p.2<=10^40
noncomputable def PtA(H:Hp)(a:Addr)(p:Pt):Prop:=H a=some (.tup [.int p.1,.int p.2])
theorem at0{x y:V}:atI [x,y] 0=some x:=rfl
theorem at1{x y:V}:atI [x,y] 1=some y:=rfl
theorem fZ{x y:Int}(h1:-(10^40)<=x/\x<=10^40)(h2:-(10^40)<=y/\y<=10^40):Big (x-y):=bv (by lia) (by lia)
theorem gK{x y a b:Int}(h1:-a<=x/\x<=a)(h2:-b<=y/\y<=b)(ha:0<=a)(hb:0<=b):-(a*b)<=x*y/\x*y<=a*b:=by
 have k1:=Int.mul_nonneg (show 0<=a-x by lia) (show 0<=b-y by lia)
 have k2:=Int.mul_nonneg (show 0<=a+x by lia) (show 0<=b+y by lia)
 have k3:=Int.mul_nonneg (show 0<=a-x by lia) (show 0<=b+y by lia)
 have k4:=Int.mul_nonneg (show 0<=a+x by lia) (show 0<=b-y by lia)
 have e1:(a-x)*(b-y)=a*b-a*y-x*b+x*y:=by grind
 have e2:(a+x)*(b+y)=a*b+a*y+x*b+x*y:=by grind
 have e3:(a-x)*(b+y)=a*b+a*y-x*b-x*y:=by grind
 have e4:(a+x)*(b-y)=a*b-a*y+x*b-x*y:=by grind
 lia
theorem sU{a b c:Pt}(ha:Co a)(hb:Co b)(hc:Co c):-(10^90)<=turn a b c/\turn a b c<=10^90:=by
 obtain⟨a1,a2⟩:=ha;obtain⟨b1,b2⟩:=hb;obtain⟨c1,c2⟩:=hc;have k1:=gK (x:=b.1-a.1) (y:=c.2-a.2) (a:=2*10^40) (b:=2*10^40) (by lia) (by lia) (by decide) (by decide)
 have k2:=gK (x:=b.2-a.2) (y:=c.1-a.1) (a:=2*10^40) (b:=2*10^40) (by lia) (by lia) (by decide) (by decide)
 unfold turn
 have:(2*10^40:Int)*(2*10^40)*2<=10^90:=by decide
 lia
noncomputable def fR:Sp:=fun vs H Q _=>∃a b c pa pb pc,vs=[.ref a,.ref b,.ref c]/\PtA H a pa/\PtA H b pb/\PtA H c pc/\Co pa/\Co pb/\Co pc/\Q (.int (turn pa pb pc)) H
noncomputable def nZ:Sp:=fun vs H Q _=>∃a n b,vs=[.int a,.int n,.int b]/\Q (.bl (fU a n b)) H
noncomputable def wJ:Sp:=fun vs H Q _=>∃a b c pa pb pc,vs=[.ref a,.ref b,.ref c]/\PtA H a pa/\PtA H b pb/\PtA H c pc/\Co pa/\Co pb/\Co pc/\Q (.bl (dQ pa pb pc)) H
noncomputable def sf:Sp:=fun vs H Q _=>∃a b c d pa pb pc pd,vs=[.ref a,.ref b,.ref c,.ref d]/\PtA H a pa/\PtA H b pb/\PtA H c pc/\PtA H d pd/\Co pa/\Co pb/\Co pc/\Co pd/\Q (.bl (iK pa pb pc pd)) H
noncomputable def qp:Sp:=fun vs H Q _=>∃a b c d pa pb pc pd,vs=[.ref a,.ref b,.ref c,.ref d]/\PtA H a pa/\PtA H b pb/\PtA H c pc/\PtA H d pd/\Co pa/\Co pb/\Co pc/\Co pd/\Q (.bl (cy pa pb pc pd)) H
noncomputable def v1:Sp:=fun vs H Q _=>∃a b c pa pb pc,vs=[.ref a,.ref b,.ref c]/\PtA H a pa/\PtA H b pb/\PtA H c pc/\Co pa/\Co pb/\Co pc/\Q (.bl (gx pa pb pc)) H
structure Cal(P:Zy)(w:Zm)(K:Z1)(mg:Str->Option Value)(base:ZE)(n:Nat)(x:Str)(ps:List Str)(sp:Sp):Prop where
 ex:∃f fd,FnOk P w K mg base CX0 n f fd ps sp/\Binds K fd ps []/\YG K (.ref f)=true/\mg x=some (.ref f)
theorem A0{X:Cx}{j k:Nat}{x:Str}{ps:List Str}{sp:Sp}{p pos:Pos}{e:Expr}{es:List Expr}{t:TA}(C:Cal X.prog X.w X.K X.mg X.base j x ps sp)(hr:dw k X.A)(hj:j<=k)(hg:Gl X x)(ha:PA X (e::es) t)
  (D9:(x==("__debug__" : Str))=false:=by decide)(he:Zn (e::es) X.env=(false,eval e X.env)::Zn es X.env:=by rfl)(D8:(backTo pos (Zn es X.env)).any (·.1)=false:=by rfl):
  PE X (.Call (.Name x p) (e::es) [] pos) (mx sp [] E0 t):=by
 obtain⟨f,fd,F,b,k',m⟩:=C.ex;exact At F (hr.mono hj) hg m k' b .nil CQ ha D9 he D8
theorem aB{X:Cx}{j k:Nat}{x:Str}{ps:List Str}{sp:Sp}{p pos:Pos}{e:Expr}{es:List Expr}{t:TA}(C:Cal X.prog X.w X.K X.mg X.base j x ps sp)(hr:dw k X.A)(ha:PA X (e::es) t)(hj:j<=k:=by decide)(hg:Gl X x:=by rfl)(D9:(x==("__debug__" : Str))=false:=by decide)(he:Zn (e::es) X.env=(false,eval e X.env)::Zn es X.env:=by rfl)(D8:(backTo pos (Zn es X.env)).any (·.1)=false:=by rfl):PE X (.Call (.Name x p) (e::es) [] pos) (mx sp [] E0 t):=A0 C hr hj hg ha D9 he D8
theorem Cal.of{P:Zy}{w:Zm}{K:Z1}{mg:Str->Option Value}{base:ZE}{n:Nat}{x:Str}{ps:List Str}{sp:Sp}{f:Addr}{fd:ZD}(F:FnOk P w K mg base CX0 n f fd ps sp)(b:Binds K fd ps [])(k:YG K (.ref f)=true)(m:mg x=some (.ref f)):
  Cal P w K mg base n x ps sp:=⟨f,fd,F,b,k,m⟩
section
variable{P:Zy}{w:Zm}{K:Z1}{mg:Str->Option Value}{base:ZE}{f:Addr}{fd:ZD}
theorem qK:aD ["start","end","point","across","along"] ["start","end","point"] (au uG):=.mk'
theorem zU{n:Nat}(F:Fun K "turn" "turn" uG f fd):FnOk P w K mg base CX0 (n+1) f fd ["start","end","point"] fR:=by
 refine F.ok qK (by rintro _ _ _ _⟨a,b,c,pa,pb,pc,rfl,_⟩;rfl) fun C6 A outer s H vs Q E hr h=>?_
 obtain⟨a,b,c,pa,pb,pc,rfl,ha,hb,hc,ca,cb,cc,q⟩:=h;refine⟨_,ax (ay (i:=3) qK.nd (ag bQ (ag aS (am aw (pv 1) ad) (am aw (pv 0) ad)) (ag aS (am aw (pv 2) ad) (am aw (pv 0) ad))))
  (ax (ay (i:=4) qK.nd (ag bQ (ag aS (am aw (pv 1) ad) (am aw (pv 0) ad)) (ag aS (am aw (pv 2) ad) (am aw (pv 0) ad))))
  (ak (aC (ag aS (pv 3) (pv 4))))),?_⟩
 refine⟨_,rfl,b,_,_,_,rfl,rfl,SqT.of hb,at0,_,rfl,a,_,_,_,rfl,rfl,SqT.of ha,at0,_,_,rfl,rfl,_,rfl,c,_,_,_,rfl,rfl,SqT.of hc,at1,_,rfl,a,_,_,_,rfl,rfl,SqT.of ha,at1,_,_,rfl,rfl,_,_,rfl,rfl,⟨fZ cb.1 ca.1,fZ cc.2 ca.2⟩,?_⟩;refine⟨_,rfl,b,_,_,_,rfl,rfl,SqT.of hb,at1,_,rfl,a,_,_,_,rfl,rfl,SqT.of ha,at1,_,_,rfl,rfl,_,rfl,c,_,_,_,rfl,rfl,SqT.of hc,at0,_,rfl,a,_,_,_,rfl,rfl,SqT.of ha,at0,_,_,rfl,rfl,_,_,rfl,rfl,⟨fZ cb.2 ca.2,fZ cc.1 ca.1⟩,?_⟩;exact⟨_,rfl,_,rfl,_,_,rfl,rfl,q⟩
theorem vf:aD ["one","number","other"] ["one","number","other"] (au kZ):=.mk'
theorem uR{n:Nat}(F:Fun K "between" "between" kZ f fd)(m1:mg "min" = none)(m2:mg "max" = none):FnOk P w K mg base CX0 (n+1) f fd ["one","number","other"] nZ:=by
 refine F.ok vf (by rintro _ _ _ _⟨a,b,c,rfl,_⟩;rfl) fun C6 A outer s H vs Q E hr h=>?_
 obtain⟨a,m,b,rfl,q⟩:=h;refine⟨_,ak (aC (yT zm zm (aE (wM rfl) rfl m1 TN (pa2 (pv 0) (pv 2))) (pv 1) (aE (vK rfl) rfl m2 TQ (pa2 (pv 0) (pv 2))))),?_⟩;refine⟨_,rfl,_,rfl,_,_,rfl,_,rfl,_,_,rfl,rfl,_,rfl,?_⟩;refine a9 (fun c=>?_) (fun c=>?_)
 ·refine⟨_,rfl,_,rfl,_,_,rfl,_,_,rfl,rfl,?_⟩;have c':=Zi c;have e:decide (m<=if b>a then b else a)=fU a m b:=by
   unfold fU;rw[ZP,Xz];simp only[decide_eq_true_eq]
   (repeat' split at c')<;>(repeat' split)<;>lia
  show Q (.bl (decide (m<=if b>a then b else a))) H
  rw[e];exact q
 ·have c':¬_:=fun z=>c (Zo z);have e:false=fU a m b:=by
   unfold fU;symm;rw[Wg];simp only[decide_eq_false_iff_not]
   (repeat' split at c')<;>lia
  show Q (.bl false) H;rw[e];exact q
theorem A1:aD ["start","end","point"] ["start","end","point"] (au tO):=.mk'
theorem zH(F:Fun K "lies_on" "lies_on" tO f fd)(cB:Cal P w K mg base 1 "between" ["one","number","other"] nZ)(cT:Cal P w K mg base 1 "turn" ["start","end","point"] fR):FnOk P w K mg base CX0 2 f fd ["start","end","point"] wJ:=by
 refine F.ok A1 (by rintro _ _ _ _⟨a,b,c,pa,pb,pc,rfl,_⟩;rfl) fun C6 A outer s H vs Q E hr h=>?_
 obtain⟨a,b,c,pa,pb,pc,rfl,ha,hb,hc,ca,cb,cc,q⟩:=h;refine⟨_,ax (bc (PW.pt (e_ (eJ (bG (aB cB hr (pa3 (am aw (pv 0) ad) (am aw (pv 2) ad) (am aw (pv 1) ad)))))
   (fL (eJ (bG (aB cB hr (pa3 (am aw (pv 0) ad) (am aw (pv 2) ad) (am aw (pv 1) ad))))))))
   (ak (aC cw)) aQ)
  (ak (aC (gP dM (aB cT hr (pa3 (pv 0) (pv 1) (pv 2))) ad))),?_⟩
 refine⟨_,rfl,a,_,_,_,rfl,rfl,SqT.of ha,at0,_,rfl,c,_,_,_,rfl,rfl,SqT.of hc,at0,_,rfl,b,_,_,_,rfl,rfl,SqT.of hb,at0,?_⟩;refine⟨_,_,_,rfl,_,rfl,?_⟩;refine a9 (fun c1=>?_) (fun c1=>?_)
 ·refine dt ?_;have e:dQ pa pb pc=false:=by
   unfold dQ;rw[Ym]at c1;rw[show fU pa.1 pc.1 pb.1=false from c1];rfl
  rw[e]at q;exact q
 ·refine⟨_,rfl,a,_,_,_,rfl,rfl,SqT.of ha,at1,_,rfl,c,_,_,_,rfl,rfl,SqT.of hc,at1,_,rfl,b,_,_,_,rfl,rfl,SqT.of hb,at1,_,_,_,rfl,_,rfl,?_⟩;refine a9 (fun c2=>?_) (fun c2=>?_)
  ·have e:dQ pa pb pc=false:=by
    unfold dQ;rw[Ym]at c2;rw[show fU pa.2 pc.2 pb.2=false from c2,WJ];rfl
   rw[e]at q;exact q
  ·have c1':fU pa.1 pc.1 pb.1=true:=by simpa using c1
   have c2':fU pa.2 pc.2 pb.2=true:=by simpa using c2
   refine⟨_,rfl,_,rfl,_,rfl,a,b,c,pa,pb,pc,rfl,ha,hb,hc,ca,cb,cc,rfl,?_⟩;have e:dQ pa pb pc=decide (V.int (turn pa pb pc)=V.int 0):=by
    unfold dQ;rw[c1',c2',df];rfl
   rw[e]at q;exact q
theorem Ax:aD ["start","end","one","other"] ["start","end","one","other"] (au pM):=.mk'
theorem xt(F:Fun K "parts" "parts" pM f fd)(cT:Cal P w K mg base 1 "turn" ["start","end","point"] fR):FnOk P w K mg base CX0 2 f fd ["start","end","one","other"] sf:=by
 refine F.ok Ax (by rintro _ _ _ _⟨a,b,c,d,pa,pb,pc,pd,rfl,_⟩;rfl) fun C6 A outer s H vs Q E hr h=>?_
 obtain⟨a,b,c,d,pa,pb,pc,pd,rfl,ha,hb,hc,hd,ca,cb,cc,cd,q⟩:=h;refine⟨_,ak (aC (gP lM (ag bQ (aB cT hr (pa3 (pv 0) (pv 1) (pv 2))) (aB cT hr (pa3 (pv 0) (pv 1) (pv 3)))) ad)),?_⟩
 have k1:=sU ca cb cc;have k2:=sU ca cb cd;exact⟨_,rfl,_,rfl,_,rfl,a,b,c,pa,pb,pc,rfl,ha,hb,hc,ca,cb,cc,_,rfl,_,rfl,_,rfl,a,b,d,pa,pb,pd,rfl,ha,hb,hd,ca,cb,cd,_,_,rfl,rfl,⟨bv (by lia) (by lia),bv (by lia) (by lia)⟩,_,_,rfl,rfl,q⟩
theorem A2:aD ["start","end","other_start","other_end"] ["start","end","other_start","other_end"] (au uA):=.mk'
theorem AF(F:Fun K "sides_meet" "sides_meet" uA f fd)(cL:Cal P w K mg base 2 "lies_on" ["start","end","point"] wJ)(cP:Cal P w K mg base 2 "parts" ["start","end","one","other"] sf):FnOk P w K mg base CX0 3 f fd ["start","end","other_start","other_end"] qp:=by
 refine F.ok A2 (by rintro _ _ _ _⟨a,b,c,d,pa,pb,pc,pd,rfl,_⟩;rfl) fun C6 A outer s H vs Q E hr h=>?_
 obtain⟨a,b,c,d,pa,pb,pc,pd,rfl,ha,hb,hc,hd,ca,cb,cc,cd,q⟩:=h;refine⟨_,ax (bc (PW.pt (e_ (bG (aB cL hr (pa3 (pv 0) (pv 1) (pv 2)))) (fL (bG (aB cL hr (pa3 (pv 0) (pv 1) (pv 3))))))) (ak (aC cw)) aQ)
  (ax (bc (PW.pt (e_ (bG (aB cL hr (pa3 (pv 2) (pv 3) (pv 0)))) (fL (bG (aB cL hr (pa3 (pv 2) (pv 3) (pv 1))))))) (ak (aC cw)) aQ)
  (ak (aC (jq (aB cP hr (pa4 (pv 0) (pv 1) (pv 2) (pv 3))) (jE (aB cP hr (pa4 (pv 2) (pv 3) (pv 0) (pv 1)))))))),?_⟩
 refine⟨_,rfl,_,rfl,_,rfl,a,b,c,pa,pb,pc,rfl,ha,hb,hc,ca,cb,cc,_,rfl,?_⟩;refine a9 (fun c1=>?_) (fun c1=>?_)
 ·refine dt ?_;have e:cy pa pb pc pd=true:=by unfold cy;rw[c1];rfl
  rw[e]at q;exact q
 refine⟨_,rfl,_,rfl,_,rfl,a,b,d,pa,pb,pd,rfl,ha,hb,hd,ca,cb,cd,_,rfl,?_⟩;refine a9 (fun c2=>?_) (fun c2=>?_)
 ·have e:cy pa pb pc pd=true:=by unfold cy;rw[c2,Uu];rfl
  rw[e]at q;exact q
 refine⟨_,rfl,_,rfl,_,rfl,c,d,a,pc,pd,pa,rfl,hc,hd,ha,cc,cd,ca,_,rfl,?_⟩;refine a9 (fun c3=>?_) (fun c3=>?_)
 ·refine dt ?_;have e:cy pa pb pc pd=true:=by unfold cy;rw[c3,Uu];rfl
  rw[e]at q;exact q
 refine⟨_,rfl,_,rfl,_,rfl,c,d,b,pc,pd,pb,rfl,hc,hd,hb,cc,cd,cb,_,rfl,?_⟩;refine a9 (fun c4=>?_) (fun c4=>?_)
 ·have e:cy pa pb pc pd=true:=by unfold cy;rw[c4,Uu];rfl
  rw[e]at q;exact q
 have e:cy pa pb pc pd=(iK pa pb pc pd&&iK pc pd pa pb):=by
  unfold cy;rw[Yc.mpr c1,Yc.mpr c2,Yc.mpr c3,Yc.mpr c4];rfl
 rw[e]at q;refine⟨_,rfl,_,rfl,_,rfl,_,rfl,a,b,c,d,pa,pb,pc,pd,rfl,ha,hb,hc,hd,ca,cb,cc,cd,_,rfl,?_⟩;refine a9 (fun c5=>?_) (fun c5=>?_)
 ·rw[c5,Bool.true_and]at q;exact⟨_,rfl,_,rfl,_,rfl,_,rfl,c,d,a,b,pc,pd,pa,pb,rfl,hc,hd,ha,hb,cc,cd,ca,cb,q⟩
 ·rw[Yc.mpr c5,UB]at q;exact q
theorem pN:aD ["before","corner","after","across","upward"] ["before","corner","after"] (au uO):=.mk'
theorem Al(F:Fun K "goes_back" "goes_back" uO f fd)(cT:Cal P w K mg base 1 "turn" ["start","end","point"] fR):FnOk P w K mg base CX0 2 f fd ["before","corner","after"] v1:=by
 refine F.ok pN (by rintro _ _ _ _⟨a,b,c,pa,pb,pc,rfl,_⟩;rfl) fun C6 A outer s H vs Q E hr h=>?_
 obtain⟨a,b,c,pa,pb,pc,rfl,ha,hb,hc,ca,cb,cc,q⟩:=h;refine⟨_,ax (bc (aV j6 (aB cT hr (pa3 (pv 0) (pv 1) (pv 2))) ad) (ak (aC cw)) aQ)
  (ax (ay (i:=3) pN.nd (ag bQ (ag aS (am aw (pv 0) ad) (am aw (pv 1) ad)) (ag aS (am aw (pv 2) ad) (am aw (pv 1) ad))))
  (ax (ay (i:=4) pN.nd (ag bQ (ag aS (am aw (pv 0) ad) (am aw (pv 1) ad)) (ag aS (am aw (pv 2) ad) (am aw (pv 1) ad))))
  (ak (aC (gP ik (ag aW (pv 3) (pv 4)) ad))))),?_⟩
 refine⟨_,rfl,_,rfl,_,rfl,a,b,c,pa,pb,pc,rfl,ha,hb,hc,ca,cb,cc,rfl,_,rfl,?_⟩;refine a9 (fun c1=>?_) (fun c1=>?_)
 ·have e:gx pa pb pc=false:=by
   unfold gx;rw[df,Ym]at c1;rw[c1];rfl
  rw[e]at q;exact q
 have c1':(turn pa pb pc==0)=true:=by
  rw[df]at c1;simpa using c1
 refine⟨_,rfl,a,_,_,_,rfl,rfl,SqT.of ha,at0,_,rfl,b,_,_,_,rfl,rfl,SqT.of hb,at0,_,_,rfl,rfl,_,rfl,c,_,_,_,rfl,rfl,SqT.of hc,at0,_,rfl,b,_,_,_,rfl,rfl,SqT.of hb,at0,_,_,rfl,rfl,_,_,rfl,rfl,⟨fZ ca.1 cb.1,fZ cc.1 cb.1⟩,?_⟩;refine⟨_,rfl,a,_,_,_,rfl,rfl,SqT.of ha,at1,_,rfl,b,_,_,_,rfl,rfl,SqT.of hb,at1,_,_,rfl,rfl,_,rfl,c,_,_,_,rfl,rfl,SqT.of hc,at1,_,rfl,b,_,_,_,rfl,rfl,SqT.of hb,at1,_,_,rfl,rfl,_,_,rfl,rfl,⟨fZ ca.2 cb.2,fZ cc.2 cb.2⟩,?_⟩;refine⟨_,rfl,_,rfl,_,_,rfl,rfl,_,_,rfl,rfl,?_⟩;have e:gx pa pb pc=decide (0<kN pa pb pc):=by unfold gx;rw[c1'];rfl
 rw[e]at q;exact q
end
end FD
end
section
namespace FD
open PySem L2 FF
noncomputable abbrev qd:Stmt:=top 15
noncomputable abbrev tV:Stmt:=top 16
noncomputable abbrev uF:Stmt:=top 17
noncomputable abbrev ni:Stmt:=top 18
noncomputable abbrev qT:Stmt:=top 19
noncomputable abbrev ju:Stmt:=top 20
noncomputable abbrev jH:Stmt:=top 21
noncomputable abbrev j4:Stmt:=top 22
noncomputable def aj(n:Nat)(rf:Nat->Addr):List V:=(Z4 n).map fun i=>V.ref (rf i)
theorem ai{n:Nat}{rf:Nat->Addr}:(aj n rf).length=n:=by unfold aj;rw[Z7,Y2]
theorem aR{n:Nat}{rf:Nat->Addr}{i:Nat}(h:i<n):(aj n rf)[i]?=some (.ref (rf i)):=by unfold aj;rw[Zj,YY h];rfl
theorem bU{n:Nat}{rf:Nat->Addr}{i:Nat}{x:V}(h:(aj n rf)[i]?=some x):i<n/\x=.ref (rf i):=by
 have hi:i<n:=by have:=(Zh.mp h).1;rwa [ai]at this
 rw[aR hi]at h;exact⟨hi,(Ze h).symm⟩
noncomputable def PLs(H:Hp)(l:Addr)(rf:Nat->Addr)(cs:List Pt):Prop:=H l=some (.lst (aj cs.length rf))/\∀i,i<cs.length->PtA H (rf i) (at' cs i)
theorem PLs.mono{H H':Hp}{l:Addr}{rf:Nat->Addr}{cs:List Pt}(h:PLs H l rf cs)(s:av H H'):PLs H' l rf cs:=⟨s _ _ h.1,fun i hi=>s _ _ (h.2 i hi)⟩
noncomputable def aN(cs:List Pt):Prop:=∀i,i<cs.length->Co (at' cs i)
theorem ao{H:Hp}{p:Addr}(h:H p=none)(o:HO):av H (upd H p o):=fun b u q=>by rw[aG (a8 q h)];exact q
theorem a_{n:Nat}(h:n<=1000):n<=sizeLine:=Nat.le_of_lt (jh h)
theorem mM{n k:Nat}{rf:Nat->Addr}(hk:k<=n)(h0:0<k):atI (aj n rf) (-(k:Int))=some (.ref (rf (n-k))):=by
 unfold atI ixN;rw[ai,if_neg (by lia),if_pos (by lia)]
 have e:(-(k:Int)+(n:Int)).toNat=n-k:=by lia
 rw[e];exact aR (by lia)
theorem bS{n k:Nat}{rf:Nat->Addr}(hk:k<n):atI (aj n rf) (k:Int)=some (.ref (rf k)):=jZ (aR hk)
noncomputable def pv_(n i:Nat):Nat:=if i=0 then n-1 else i-1
theorem gu{n k:Nat}{rf:Nat->Addr}(hk:k<n):atI (aj n rf) ((k:Int)-1)=some (.ref (rf (pv_ n k))):=by
 unfold pv_;by_cases c:k=0
 ·rw[if_pos c]
  have:(k:Int)-1=-((1:Nat):Int):=by lia
  rw[this];exact mM (by lia) (by lia)
 ·rw[if_neg c]
  have:(k:Int)-1=((k-1:Nat):Int):=by lia
  rw[this];exact bS (by lia)
theorem nN{n k:Nat}{rf:Nat->Addr}(hk:k<n)(h2:2<=n):atI (aj n rf) ((k:Int)-2)=some (.ref (rf (pv_ n (pv_ n k)))):=by
 unfold pv_;by_cases c:k=0
 ·rw[if_pos c,if_neg (by lia)]
  have:(k:Int)-2=-((2:Nat):Int):=by lia
  rw[this,show n-1-1=n-2 by lia]
  exact mM (by lia) (by lia)
 ·rw[if_neg c];by_cases c2:k=1
  ·rw[if_pos (by lia)]
   have:(k:Int)-2=-((1:Nat):Int):=by lia
   rw[this];exact mM (by lia) (by lia)
  ·rw[if_neg (by lia)]
   have:(k:Int)-2=((k-2:Nat):Int):=by lia
   rw[this,show k-1-1=k-2 by lia]
   exact bS (by lia)
theorem gv{n i:Nat}(h:i<n):pv_ n i<n:=by unfold pv_;split<;>lia
theorem zk{n i:Nat}(h:i<n):nx n (pv_ n i)=i:=by unfold nx pv_;(repeat' split)<;>lia
theorem zu{n i:Nat}(h:i<n):pv_ n (nx n i)=i:=by unfold nx pv_;(repeat' split)<;>lia
theorem sg{n:Nat}{rf:Nat->Addr}(h:1<=n):bq (aj n rf) (some 1) none++bq (aj n rf) none (some 1)=aj n (fun i=>rf (nx n i)):=by
 have e1:bq (aj n rf) (some 1) none=(aj n rf).drop 1:=by
  unfold bq;rw[show HT.sIx (aj n rf).length 0 (some 1)=min 1 (aj n rf).length from HT.sIx_nat _ _ 1,HT.sIx_none,ai,Nat.min_eq_left h]
  exact W9 (by rw[Zp,ai];lia)
 have e2:bq (aj n rf) none (some 1)=(aj n rf).take 1:=by
  unfold bq;rw[show HT.sIx (aj n rf).length (aj n rf).length (some 1)=min 1 (aj n rf).length from HT.sIx_nat _ _ 1,HT.sIx_none,ai,Nat.min_eq_left h,Va]
 rw[e1,e2];apply XF;intro i;by_cases c:i<n
 ·rw[aR c];by_cases c2:i+1=n
  ·rw[Yt (by rw[Zp,ai];lia),Zp,ai,YA (by lia),show i-(n-1)=0 by lia,aR (by lia)]
   unfold nx;rw[if_pos c2]
  ·rw[ZW (by rw[Zp,ai];lia),Xi,aR (by lia)]
   unfold nx;rw[if_neg c2,Nat.add_comm]
 ·rw[ZS (by rw[Z5,Zp,Za,ai];lia),ZS (by rw[ai];lia)]
noncomputable def zL(H:Hp)(r:Addr)(ts rf:Nat->Addr)(n:Nat):Prop:=H r=some (.lst (aj n ts))/\∀i,i<n->H (ts i)=some (.tup [.ref (rf i),.ref (rf (nx n i))])
noncomputable def kg:Sp:=fun vs H Q _=>∃l rf cs,vs=[.ref l]/\PLs H l rf cs/\1<=cs.length/\cs.length<=400/\∀r ts H',av H H'->zL H' r ts rf cs.length->Q (.ref r) H'
noncomputable def jb(cs:List Pt):Prop:=∃i,i<cs.length/\gx (at' cs i) (at' cs (nx cs.length i)) (at' cs (nx cs.length (nx cs.length i)))=true
noncomputable def lc(cs:List Pt):Prop:=∃i j,i<cs.length/\j<cs.length/\i≠j/\nx cs.length i≠j/\nx cs.length j≠i/\cy (at' cs i) (at' cs (nx cs.length i)) (at' cs j) (at' cs (nx cs.length j))=true
noncomputable def lW:Sp:=fun vs H Q _=>∃l rf cs,vs=[.ref l]/\PLs H l rf cs/\aN cs/\3<=cs.length/\cs.length<=400/\∀b,(b=true↔jb cs)->Q (.bl b) H
noncomputable def lF:Sp:=fun vs H Q _=>∃l rf cs,vs=[.ref l]/\PLs H l rf cs/\aN cs/\3<=cs.length/\cs.length<=400/\∀b H',av H H'->(b=true↔lc cs)->Q (.bl b) H'
noncomputable def r9:Sp:=fun vs H Q _=>∃l rf cs,vs=[.ref l]/\PLs H l rf cs/\aN cs/\cs.length<=400/\∀b H',av H H'->(b=true↔aZ cs)->Q (.bl b) H'
noncomputable def kL:Sp:=fun vs H Q _=>∃l rf cs,vs=[.ref l]/\PLs H l rf cs/\aN cs/\aZ cs/\∀H',av H H'->Q .non H'
noncomputable def lu:Sp:=fun vs H Q _=>∃l rf cs,vs=[.ref l]/\PLs H l rf cs/\aN cs/\1<=cs.length/\cs.length<=400/\∀H',av H H'->Q (.int (area cs)) H'
noncomputable def u9:Sp:=fun vs H Q _=>∃l rf cs,vs=[.ref l]/\PLs H l rf cs/\aN cs/\aZ cs/\∀H',av H H'->Q (.int (if area cs<0 then-area cs else area cs)) H'
noncomputable def vZ:Sp:=fun vs H Q _=>∃l rf cs,vs=[.ref l]/\PLs H l rf cs/\aN cs/\aZ cs/\∀H',av H H'->Q (.bl (decide (0<area cs))) H'
section
variable{P:Zy}{w:Zm}{K:Z1}{mg:Str->Option Value}{base:ZE}{f:Addr}{fd:ZD}
theorem zR:aD ["corners"] ["corners"] (au qT):=.mk'
theorem yl{n:Nat}(F:Fun K "sides_of" "sides_of" qT f fd)(m1:mg "list" = none)(m2:mg "zip" = none):FnOk P w K mg base CX0 (n+1) f fd ["corners"] kg:=by
 refine F.ok zR (by rintro _ _ _ _⟨l,rf,cs,rfl,_⟩;rfl) fun C6 A outer s H vs Q E hr h=>?_
 obtain⟨l,rf,cs,rfl,hp,n1,n4,q⟩:=h;refine⟨_,ak (aC (tQ rfl rfl m1 rfl m2 (pa2 (pv 0) (ag gG (eO fI (pv 0) (eV ad) f9) (eO fI (pv 0) f9 (eV ad)))))),?_⟩;refine⟨_,rfl,_,rfl,1,rfl,l,_,rfl,SqL.of hp.1,fun p1 hp1=>?_⟩;have s1:=ao hp1 (.lst (bq (aj cs.length rf) (some 1) none));refine⟨_,rfl,1,rfl,l,_,rfl,SqL.of (s1 _ _ hp.1),fun p2 hp2=>?_⟩;have s2:=ao hp2 (.lst (bq (aj cs.length rf) none (some 1)));refine⟨p1,p2,_,_,rfl,rfl,s2 _ _ ah,ah,?_,fun p3 hp3=>?_⟩
 ·rw[<-Z5,sg n1,ai];exact a_ (by lia)
 have s3:=ao hp3 (.lst (bq (aj cs.length rf) (some 1) none++bq (aj cs.length rf) none (some 1)));have sA:=s1.trans (s2.trans s3);refine⟨l,p3,aj cs.length rf,aj cs.length (fun i=>rf (nx cs.length i)),rfl,SqL.of (sA _ _ hp.1),?_,by rw[ai,ai],fun ts r H' sH ht hl=>?_⟩
 ·rw[<-sg n1];exact SqL.of ah
 refine q r ts H' (sA.trans sH) ⟨?_,fun i hi=>ht i _ _ (aR hi) (aR hi)⟩;rw[hl,ai];rfl
theorem lI:aD ["corners","k"] ["corners"] (au ju):=.mk'
theorem q_(F:Fun K "some_side_goes_back" "some_side_goes_back" ju f fd)(cB:Cal P w K mg base 2 "goes_back" ["before","corner","after"] v1)(m1:mg "range" = none)(m2:mg "len" = none):FnOk P w K mg base CX0 3 f fd ["corners"] lW:=by
 refine F.ok lI (by rintro _ _ _ _⟨l,rf,cs,rfl,_⟩;rfl) fun C6 A outer s H vs Q E hr h=>?_
 obtain⟨l,rf,cs,rfl,hp,co,n3,n4,q⟩:=h;refine⟨_,ax (dF ZU rfl (dH rfl m1 (pa1 (aE aM rfl m2 ZF (pa1 (pv 0))))) (aI (i:=1) lI.nd rfl (ZQ rfl))
   (ak (bc (bG (aB cB hr (pa3 (am aF (pv 0) (ag aS (pv 1) ad)) (am aF (pv 0) (ag aS (pv 1) ad)) (am aF (pv 0) (pv 1))))) (ak (aC cw)) aQ)))
  (ak (aC cw)),?_⟩
 refine⟨_,rfl,l,_,rfl,.inl (SqL.of hp.1),_,rfl,?_,?_,?_⟩
 ·lia
 ·rw[ai];lia
 rw[ai];have e0:((cs.length:Nat):Int).toNat=cs.length:=by lia
 rw[e0];refine fJ (fun i σ H'=>(∃kv,σ=[some (.ref l),kv])/\H'=H/\∀k,k<i->gx (at' cs (pv_ cs.length (pv_ cs.length k))) (at' cs (pv_ cs.length k)) (at' cs k)=false) ⟨⟨none,rfl⟩,rfl,fun k hk=>absurd hk (by lia)⟩ ?_ ?_
 ·rintro i σ H' hi ⟨⟨kv,rfl⟩,rfl,Du⟩;have ei:(0:Int)+(i:Int)=(i:Int):=by lia
  rw[ei];have p1:=gv hi;have p2:=gv p1;refine⟨_,rfl,_,rfl,_,_,rfl,rfl,l,_,_,_,rfl,rfl,SqL.of hp.1,nN hi (by lia),_,rfl,_,rfl,_,_,rfl,rfl,l,_,_,_,rfl,rfl,SqL.of hp.1,gu hi,_,rfl,_,rfl,l,_,_,_,rfl,rfl,SqL.of hp.1,bS hi,
   rf _,rf _,rf i,_,_,_,rfl,hp.2 _ p2,hp.2 _ p1,hp.2 _ hi,co _ p2,co _ p1,co _ hi,_,rfl,?_⟩
  refine a9 (fun c=>?_) (fun c=>?_)
  ·refine q true ⟨fun _=>?_,fun _=>rfl⟩;refine⟨pv_ cs.length (pv_ cs.length i),p2,?_⟩;rw[zk p1,zk hi];exact c
  ·refine⟨⟨_,rfl⟩,rfl,fun k hk=>?_⟩;by_cases e:k=i
   ·subst e;exact Yc.mpr c
   ·exact Du k (by lia)
 ·rintro σ H' ⟨_,rfl,Du⟩;refine q false ⟨fun z=>ZR z,fun ⟨i,hi,hb⟩=>?_⟩;have n1:=aH hi;have n2:=aH n1
  have:=Du _ n2
  rw[zu n1,zu hi]at this;rw[this]at hb;exact ZR hb
end
end FD
end
section
namespace L2
open PySem PySem.Spec PyProof.Rows
theorem xj{K:Z1}{a:Addr}{xs:List V}{g:TG}{tb:TS}{D:iE}{σ:St}{H:Hp}(Pv:Nat->St->Hp->Prop)(h0:Pv 0 σ H)(hl:∀i σ H,i<=xs.length->Pv i σ H->SqL K H a xs)
  (hs:∀i x σ H T,xs[i]?=some x->Pv i σ H->H T=none->g (.ref T) σ (upd H T (.tup [.int i,x])) fun σ2 H2=>tb {D with nx:=Pv (i+1),ct:=Pv (i+1),bk:=D.nx} σ2 H2)(hd:∀σ H,Pv xs.length σ H->D.nx σ H):
  ∃W:Nat->Nat->St->Hp->Prop,(∃m,W 0 m σ H)/\∀i m σ H,W i m σ H->
   ((Ite K a).stop i H/\D.nx σ H)\/((Ite K a).go i H/\∃N:St->Hp->Prop,(∀σ' H',N σ' H'->∃m',m'<m/\W (i+1) m' σ' H')/\∀x H',(Ite K a).yld i H x H'->g x σ H' fun σ2 H2=>tb {D with nx:=N,ct:=N,bk:=D.nx} σ2 H2):=by
 refine⟨fun i m σ H=>m=xs.length-i/\i<=xs.length/\Pv i σ H,⟨xs.length,by simp,Nat.zero_le _,h0⟩,?_⟩
 rintro i m σ H ⟨rfl,hi,p⟩;have q:=hl i σ H hi p;by_cases C_:i<xs.length
 ·refine .inr ⟨⟨xs,xs[i],q,by simp[C_]⟩,Pv (i+1),fun σ' H' p'=>⟨xs.length-(i+1),by lia,rfl,C_,p'⟩,fun x H' y=>?_⟩
  obtain⟨T,v,rfl,hT,rfl,y⟩:=y;exact hs i v σ _ T (y xs q) p hT
 ·have e:i=xs.length:=by lia
  subst e;exact .inl ⟨⟨xs,q,Nat.le_refl _⟩,hd σ H p⟩
noncomputable def wN(sc scope:XT)(N0 N':List Str)(own:Nat)(ae:List Nat):Bool:=
 scope.names.all (fun y=>!(y.2==.cell))&&(scope.kind==.function)&&scope.names.all (fun y=>!(y.2==.local)||scope.names.lookup y.1==some .local)&&
 scope.names.all (fun y=>!(y.2==.free)||sc.names.lookup y.1==some .cell||sc.names.lookup y.1==some .free)&&(N'.length==own+ae.length)&&
 (Z4 ae.length).all fun i=>match ae[i]?,N'[own+i]? with|some j,some x=>N0[j]? == some x&&scope.names.lookup x==some .free|_,_=>true
theorem aT.of{X:Cx}{sc scope:XT}{N0 N':List Str}{own:Nat}{ae:List Nat}(hsc:X.env.scope=sc)(hN:X.N=N0)(h:wN sc scope N0 N' own ae=true):aT X scope N' own ae:=by
 subst hsc hN;unfold wN at h;simp only[Zc,Y5,Ym,Xz,beq_iff_eq,Zt]at h;obtain⟨⟨⟨⟨⟨h1,h2⟩,h3⟩,h4⟩,h5⟩,h6⟩:=h;refine⟨fun y hy e=>?_,h2,fun y hy e=>?_,fun y hy e=>?_,h5,fun i j x e1 e2=>?_⟩
 ·have:=h1 y hy;rw[e]at this;exact absurd this (by decide)
 ·rcases h3 y hy with q|q
  ·rw[e]at q;exact absurd q (by decide)
  ·exact q
 ·rcases h4 y hy with (q|q)|q
  ·rw[e]at q;exact absurd q (by decide)
  ·exact .inl q
  ·exact .inr q
 ·have hi:i<ae.length:=(Zh.mp e1).1
  have:=h6 i hi
  rw[e1,e2]at this;simp only[Zc,beq_iff_eq]at this;exact this
end L2
namespace FD
open PySem L2 FF
theorem kT{n s:Nat}{ts:Nat->Addr}:bq (aj n ts) (some (s:Int)) none=aj (n-s) (fun j=>ts (s+j)):=by
 unfold bq;rw[HT.sIx_nat,HT.sIx_none,ai];apply XF;intro i;by_cases c:i<n-s
 ·rw[aR c,YA (by lia),Xi,Nat.min_eq_left (by lia),aR (by lia)]
 ·rw[ZS (by rw[Za,Zp,ai];lia),ZS (by rw[ai];lia)]
theorem zI{n:Nat}{ts:Nat->Addr}(h:3<=n):bq (aj n ts) (some 2) (some (-1))=aj (n-3) (fun j=>ts (2+j)):=by
 unfold bq;have e1:HT.sIx (aj n ts).length 0 (some 2)=2:=by
  rw[show HT.sIx (aj n ts).length 0 (some 2)=min 2 (aj n ts).length from HT.sIx_nat _ _ 2,ai];lia
 have e2:HT.sIx (aj n ts).length (aj n ts).length (some (-1))=n-1:=by
  show (if (-1:Int)<0 then ((-1:Int)+((aj n ts).length:Int)).toNat else min (-1:Int).toNat (aj n ts).length)=_
  rw[if_pos (by decide),ai];lia
 rw[e1,e2];apply XF;intro i;by_cases c:i<n-3
 ·rw[aR c,YA (by lia),Xi,aR (by lia)]
 ·rw[ZS (by rw[Za,Zp,ai];lia),ZS (by rw[ai];lia)]
noncomputable def bhN(n k:Nat):Nat:=if k=0 then n-3 else n-(k+2)
theorem zN{cs:List Pt}(h3:3<=cs.length)(h:∀k,k<cs.length->∀j,j<bhN cs.length k->cy (at' cs k) (at' cs (nx cs.length k)) (at' cs (k+2+j)) (at' cs (nx cs.length (k+2+j)))=false):¬lc cs:=by
 have main:∀i j,i<j->j<cs.length->nx cs.length i≠j->nx cs.length j≠i->cy (at' cs i) (at' cs (nx cs.length i)) (at' cs j) (at' cs (nx cs.length j))=false:=by
  intro i j hij hj n1 n2
  have:=h i (by lia) (j-(i+2)) (by unfold bhN;unfold nx at n1 n2;(repeat' split at n1)<;>(repeat' split at n2)<;>(repeat' split)<;>lia)
  have e:i+2+(j-(i+2))=j:=by unfold nx at n1;(repeat' split at n1)<;>lia
  rw[e]at this;exact this
 rintro⟨i,j,hi,hj,h1,h2,h3',hm⟩;rcases Nat.lt_or_gt_of_ne h1 with g|g
 ·rw[main i j g hj h2 h3']at hm;exact ZR hm
 ·have hm':=ib.mp (ib.mpr hm).symm;rw[main j i g hi h3' h2]at hm';exact ZR hm'
section
variable{P:Zy}{w:Zm}{K:Z1}{mg:Str->Option Value}{base:ZE}{f:Addr}{fd:ZD}
theorem fb:aD ["corners","sides","k","side","behind","other"] ["corners"] (au jH):=.mk'
theorem qY(F:Fun K "some_sides_meet" "some_sides_meet" jH f fd)(cS:Cal P w K mg base 1 "sides_of" ["corners"] kg)(cM:Cal P w K mg base 3 "sides_meet" ["start","end","other_start","other_end"] qp)(m1:mg "enumerate" = none):FnOk P w K mg base CX0 4 f fd ["corners"] lF:=by
 refine F.ok fb (by rintro _ _ _ _⟨l,rf,cs,rfl,_⟩;rfl) fun C6 A outer s H vs Q E hr h=>?_
 obtain⟨l,rf,cs,rfl,hp,co,n3,n4,q⟩:=h;refine⟨_,ax (ay (i:=1) fb.nd (aB cS hr (pa1 (pv 0))))
  (ax (dF ZU rfl (AM rfl m1 (pa1 (pv 1))) (qw rfl (bD (aI (i:=2) fb.nd rfl (ZQ rfl)) (bD (aI (i:=3) fb.nd rfl (ZQ rfl)) gY)))
   (ax (ay (i:=4) fb.nd (qy (aV ik (pv 2) ad) (eO fI (pv 1) (eV (ag aW (pv 2) ad)) f9) (eO fI (pv 1) (eV ad) (eV (oH lw ad)))))
   (ak (dF ZU rfl (b9 (pv 4)) (aI (i:=5) fb.nd rfl (ZQ rfl))
    (ak (bc (bG (aB cM hr (pa4 (am aw (pv 3) ad) (am aw (pv 3) ad) (am aw (pv 5) ad) (am aw (pv 5) ad)))) (ak (aC cw)) aQ))))))
  (ak (aC cw))),?_⟩
 refine⟨_,rfl,l,rf,cs,rfl,hp,by lia,n4,fun r ts H1 s1 De=>?_⟩
 refine⟨_,rfl,r,rfl,⟨_,SqL.of De.1⟩,?_⟩;have lenN:(aj cs.length ts).length=cs.length:=ai;refine xj (xs:=aj cs.length ts) (fun i σ H'=>(∃x2 x3 x4 x5,σ=[some (.ref l),some (.ref r),x2,x3,x4,x5])/\av H1 H'/\
   ∀k,k<i->∀j,j<bhN cs.length k->cy (at' cs k) (at' cs (nx cs.length k)) (at' cs (k+2+j)) (at' cs (nx cs.length (k+2+j)))=false)
  ⟨⟨none,none,none,none,rfl⟩,av.refl _,fun k hk=>absurd hk (by lia)⟩ (fun i σ H' _ hI=>SqL.of (hI.2.1 _ _ De.1)) ?_ ?_
 ·rintro i x σ H' T hx ⟨⟨x2,x3,x4,x5,rfl⟩,sH,Du⟩ hT;obtain⟨hi,rfl⟩:=bU hx;have sT:=ao hT (.tup [.int i,.ref (ts i)]);have s2:av H1 (upd H' T (.tup [.int i,.ref (ts i)])):=sH.trans sT;refine⟨T,_,rfl,SqT.of ah,rfl,_,_,rfl,_,_,rfl,rfl,?_⟩;generalize upd H' T (.tup [.int i,.ref (ts i)])=H2 at *
  have inner:∀(p:Addr) (H3:Hp),av H1 H3->H3 p=some (.lst (aj (bhN cs.length i) fun j=>ts (i+2+j)))->
    Bj (oM K (dO 4)) (bW 5) (BC (tB (mx qp [] E0 (bB (tOp (jR K) (dO 3) (tC (.int 0))) (bB (tOp (jR K) (dO 3) (tC (.int 1))) (bB (tOp (jR K) (dO 5) (tC (.int 0))) (bB (tOp (jR K) (dO 5) (tC (.int 1))) gL)))))) (yu (tC (.bl true))) zg)
     {nx:=fun σ H'=>(∃x2 x3 x4 x5,σ=[some (.ref l),some (.ref r),x2,x3,x4,x5])/\av H1 H'/\
         ∀k,k<i+1->∀j,j<bhN cs.length k->cy (at' cs k) (at' cs (nx cs.length k)) (at' cs (k+2+j)) (at' cs (nx cs.length (k+2+j)))=false,rt:=Q,
      bk:=fun σ H'=>yu (tC (.bl false)) {nx:=fun _ H'=>Q .non H',rt:=Q} σ H',
      ct:=fun σ H'=>(∃x2 x3 x4 x5,σ=[some (.ref l),some (.ref r),x2,x3,x4,x5])/\av H1 H'/\
         ∀k,k<i+1->∀j,j<bhN cs.length k->cy (at' cs k) (at' cs (nx cs.length k)) (at' cs (k+2+j)) (at' cs (nx cs.length (k+2+j)))=false}
     [some (.ref l),some (.ref r),some (.int i),some (.ref (ts i)),some (.ref p),x5] H3:=by
   intro p H3 s3 hb;refine⟨_,rfl,p,rfl,⟨_,SqL.of hb⟩,?_⟩;refine i3 (xs:=aj (bhN cs.length i) fun j=>ts (i+2+j)) (fun m σ H'=>(∃x5,σ=[some (.ref l),some (.ref r),some (.int i),some (.ref (ts i)),some (.ref p),x5])/\H'=H3/\
    ∀j,j<m->cy (at' cs i) (at' cs (nx cs.length i)) (at' cs (i+2+j)) (at' cs (nx cs.length (i+2+j)))=false) ⟨⟨_,rfl⟩,rfl,fun j hj=>absurd hj (by lia)⟩ (fun m σ H' _ hI=>by rw[hI.2.1];exact SqL.of hb) ?_ ?_
   ·rintro m y σ H' hy ⟨⟨x5,rfl⟩,rfl,hno2⟩;obtain⟨hm,rfl⟩:=bU hy;have hj:i+2+m<cs.length:=by unfold bhN at hm;split at hm<;>lia
    have t1:=s3 _ _ (De.2 i hi);have t2:=s3 _ _ (De.2 (i+2+m) hj);have pP:∀k,k<cs.length->PtA H' (rf k) (at' cs k):=fun k hk=>s3 _ _ (s1 _ _ (hp.2 k hk));refine⟨_,rfl,_,_,_,_,rfl,rfl,SqT.of t1,at0,_,rfl,_,_,_,_,rfl,rfl,SqT.of t1,at1,_,rfl,_,_,_,_,rfl,rfl,SqT.of t2,at0,_,rfl,_,_,_,_,rfl,rfl,SqT.of t2,at1,
     _,_,_,_,_,_,_,_,rfl,pP _ hi,pP _ (aH hi),pP _ hj,pP _ (aH hj),co _ hi,co _ (aH hi),co _ hj,co _ (aH hj),_,rfl,?_⟩
    refine a9 (fun c=>?_) (fun c=>?_)
    ·refine q true H' (s1.trans s3) ⟨fun _=>?_,fun _=>rfl⟩;refine⟨i,i+2+m,hi,hj,by lia,?_,?_,c⟩
     ·unfold nx;split<;>lia
     ·unfold bhN at hm;unfold nx;(repeat' split)<;>(split at hm)<;>lia
    ·refine⟨⟨_,rfl⟩,rfl,fun j hj'=>?_⟩;by_cases e:j=m
     ·subst e;exact Yc.mpr c
     ·exact hno2 j (by lia)
   ·rintro σ H' ⟨⟨x5,rfl⟩,rfl,hno2⟩;rw[ai]at hno2;refine⟨⟨_,_,_,_,rfl⟩,s3,fun k hk=>?_⟩;by_cases e:k=i
    ·subst e;exact hno2
    ·exact Du k (by lia)
  refine⟨_,rfl,_,_,rfl,rfl,_,rfl,?_⟩;refine a9 (fun c=>?_) (fun c=>?_)
  ·have c':=Zi c;refine⟨_,rfl,_,rfl,_,_,rfl,rfl,_,rfl,r,_,rfl,SqL.of (s2 _ _ De.1),fun p hp'=>?_⟩;have s4:=ao hp' (.lst (bq (aj cs.length ts) (some ((i:Int)+2)) none));refine inner p _ (s2.trans s4) ?_;rw[ah];have e:((i:Int)+2)=((i+2:Nat):Int):=by lia
   rw[e,kT];have e2:bhN cs.length i=cs.length-(i+2):=by unfold bhN;rw[if_neg (by lia)]
   rw[e2]
  ·have c':¬(0:Int)<(i:Int):=fun z=>c (Zo z);have i0:i=0:=by lia
   subst i0;refine⟨_,rfl,_,rfl,_,rfl,_,rfl,r,_,rfl,SqL.of (s2 _ _ De.1),fun p hp'=>?_⟩;have s4:=ao hp' (.lst (bq (aj cs.length ts) (some 2) (some (-1))));refine inner p _ (s2.trans s4) ?_;rw[ah,zI n3];have e2:bhN cs.length 0=cs.length-3:=by unfold bhN;rw[if_pos rfl]
   rw[e2]
 ·rintro σ H' ⟨_,sH,Du⟩;rw[lenN]at Du;exact q false H' (s1.trans sH) ⟨fun z=>ZR z,fun z=>absurd z (zN n3 Du)⟩
end
end FD
end
section
namespace L2
open PySem PySem.Spec PyProof.Rows
section
variable{X:Cx}{scope:XT}{N':List Str}{C:Addr}{cl:List (Str×Addr)}{fp:List Addr}{aa:List (Addr×Obj)}{s₂:Shared}{H₂:Hp}
theorem gW:IxR (bb X scope N' C cl fp aa s₂ H₂) (jR X.K):=aw
theorem iV:IxR (bb X scope N' C cl fp aa s₂ H₂) (pJ X.K):=aF
theorem kw{es:List Expr}{k:Nat}{t:TGs}{n:Nat}{pos:Pos}(hc:X.calm=true)(h:PGs (bb X scope N' C cl fp aa s₂ H₂) es t)
  (hn:(assignEach es (bb X scope N' C cl fp aa s₂ H₂).env).length=n:=by rfl)(CZ:(assignEach es (bb X scope N' C cl fp aa s₂ H₂).env).findIdx? (·.1)=none:=by rfl):PG (bb X scope N' C cl fp aa s₂ H₂) (.Tuple es k pos) (uo X.K n t):=qw hc h hn CZ
end
theorem fD{X:Cx}{elt iter tg:Expr}{ifs:List Expr}{scope:XT}{pos:Pos}{N':List Str}{own:Nat}{ae:List Nat}{wi:TI}{g:TG}{tt:TT}{te:TE}(hc:X.calm=true)(S:aT X scope N' own ae)(hi:PI X tg iter wi)
  (hg:∀C cl fp aa s₂ H₂,PG (bb X scope N' C cl fp aa s₂ H₂) tg g)(ht:∀C cl fp aa s₂ H₂,PFs (bb X scope N' C cl fp aa s₂ H₂) ifs tt)(he:∀C cl fp aa s₂ H₂,PE (bb X scope N' C cl fp aa s₂ H₂) elt te)
  (hs:∀x,foldedSetIterable iter X.env x=pure x:=by intro _;rfl):PE X (.ListComp elt [⟨tg,iter,ifs,0⟩] scope pos) (kf wi own ae g tt te):=
 zG hc S hi (fun C cl fp aa s₂ H₂=>⟨hg C cl fp aa s₂ H₂,ht C cl fp aa s₂ H₂,he C cl fp aa s₂ H₂⟩) hs
theorem c9{X:Cx}{elt iter tg:Expr}{ifs:List Expr}{scope:XT}{pos:Pos}{N':List Str}{own:Nat}{ae:List Nat}{wi:TI}{g:TG}{tt:TT}{te:TE}{i:Nat}{y:Str}{py Dv:Pos}(hc:X.calm=true)(S:aT X scope N' own ae)(hN:X.N.Nodup)(Ee:X.N[i]?=some y)(hy:Loc X.env.scope y)(hi:PI X tg iter wi)
  (hg:∀C cl fp aa s₂ H₂,PG (bb X scope N' C cl fp aa s₂ H₂) tg g)(ht:∀C cl fp aa s₂ H₂,PFs (bb X scope N' C cl fp aa s₂ H₂) ifs tt)(he:∀C cl fp aa s₂ H₂,PE (bb X scope N' C cl fp aa s₂ H₂) elt te)
  (DZ:swapsWith (.ListComp elt [⟨tg,iter,ifs,0⟩] scope pos) (some (.Name y py)) Dv.line X.env=pure true:=by rfl)
  (hf:X.fn y=true\/X.env.scope.names.lookup y=some .local:=by first|exact .inl rfl|exact .inr rfl|assumption)
  (hs:∀x,foldedSetIterable iter X.env x=pure x:=by intro _;rfl):PS X (.Assign [.Name y py] (.ListComp elt [⟨tg,iter,ifs,0⟩] scope pos) Dv) (gc (kf wi own ae g tt te) (bW i)):=
 uj hc S hN Ee hy hi (fun C cl fp aa s₂ H₂=>⟨hg C cl fp aa s₂ H₂,ht C cl fp aa s₂ H₂,he C cl fp aa s₂ H₂⟩) DZ hf hs
end L2
namespace FD
open PySem L2 FF
theorem zX{cs:List Pt}:FS.dN (fun i=>[(at' cs i).1,(at' cs i).2]) cs.length<cs.length↔¬∀i j,i<cs.length->j<cs.length->at' cs i=at' cs j->i=j:=by
 rw[FS.pw];constructor
 ·rintro⟨a,b,h1,h2,e⟩ h;simp only[Xd,and_true]at e
  have:=h a b (by lia) h2 (Yy e.1 e.2)
  lia
 ·intro h;apply Zz;intro no;apply h;intro i j hi hj e;rcases Nat.lt_trichotomy i j with c|c|c
  ·exact absurd ⟨i,j,c,hj,by show [(at' cs i).1,(at' cs i).2]=[(at' cs j).1,(at' cs j).2];rw[e]⟩ no
  ·exact c
  ·exact absurd ⟨j,i,c,hi,by show [(at' cs j).1,(at' cs j).2]=[(at' cs i).1,(at' cs i).2];rw[e]⟩ no
theorem jz{cs:List Pt}:aZ cs↔3<=cs.length/\cs.length<=12/\(∀i j,i<cs.length->j<cs.length->at' cs i=at' cs j->i=j)/\¬jb cs/\¬lc cs:=by
 have ne2:∀{i},3<=cs.length->(∀i j,i<cs.length->j<cs.length->at' cs i=at' cs j->i=j)->i<cs.length->at' cs (nx cs.length (nx cs.length i))≠at' cs (nx cs.length i):=by
  intro i h3 inj hi e
  have:=inj _ _ (aH (aH hi)) (aH hi) e
  unfold nx at this
  (repeat' split at this)<;>lia
 constructor
 ·intro F;refine⟨F.lo,F.hi,F.ok.inj,?_,?_⟩
  ·rintro⟨i,hi,hb⟩;exact F.ok.nob i hi ((li (ne2 F.lo F.ok.inj hi)).mpr hb)
  ·rintro⟨i,j,hi,hj,h1,h2,h3,hm⟩;exact F.ok.nom i j hi hj h1 h2 h3 (ib.mpr hm)
 ·rintro⟨h1,h2,inj,nb,nm⟩;refine⟨h1,h2,inj,fun i hi k=>nb ⟨i,hi,(li (ne2 h1 inj hi)).mp k⟩,fun i j hi hj a b c k=>nm ⟨i,j,hi,hj,a,b,c,ib.mp k⟩⟩
theorem vR:∀(r:List Pt) (p f:Pt),ig ((Z4 (r.length+1)).map fun i=>cr (at' (p::r) i) (if i=r.length then f else at' (p::r) (i+1)))=pa p r f
 | [],p,f=>by
  show cr p f+0=cr p f;lia
 |x::r,p,f=>by
  have ih:=vR r x f;rw[Zd,Vs,ZI,Yl];show cr (at' (p::x::r) 0) (if 0=r.length+1 then f else at' (p::x::r) (0+1))+ig _=cr p x+pa x r f
  rw[if_neg (by lia),<-ih]
  congr 2;apply WA;intro i _;show cr (at' (x::r) i) (if i+1=r.length+1 then f else at' (x::r) (i+1))=_
  by_cases c:i=r.length
  ·rw[if_pos (by lia),if_pos c]
  ·rw[if_neg (by lia),if_neg c]
theorem xy{cs:List Pt}(h:1<=cs.length):ig ((Z4 cs.length).map fun i=>cr (at' cs i) (at' cs (nx cs.length i)))=area cs:=by
 match cs,h with
 |c::r,_=>
  have:=vR r c c
  rw[show area (c::r)=pa c r c from rfl,<-this,Zd]
  congr 1;apply WA;intro i hi;have hi:=Zt.mp hi;unfold nx;by_cases e:i=r.length
  ·rw[if_pos (by lia),if_pos e];rfl
  ·rw[if_neg (by lia),if_neg e]
theorem CA{p q:Pt}(hp:Co p)(hq:Co q):Big p.1/\Big q.2/\Big q.1/\Big p.2:=⟨bv (by have:=hp.1;lia) (by have:=hp.1;lia),bv (by have:=hq.2;lia) (by have:=hq.2;lia),bv (by have:=hq.1;lia) (by have:=hq.1;lia),bv (by have:=hp.2;lia) (by have:=hp.2;lia)⟩
section
variable{P:Zy}{w:Zm}{K:Z1}{mg:Str->Option Value}{base:ZE}{f:Addr}{fd:ZD}
theorem zV:aD ["corners"] ["corners"] (au qd):=.mk'
theorem xG{t3 t12:Tok}(F:Fun K "is_fence" "is_fence" qd f fd)(cB:Cal P w K mg base 3 "some_side_goes_back" ["corners"] lW)(cM:Cal P w K mg base 4 "some_sides_meet" ["corners"] lF)(ml:mg "len" = none)(ms:mg "set" = none)
  (m3:mg "FEWEST_CORNERS" = some (.int 3 t3))(DP:mg "MOST_CORNERS" = some (.int 12 t12)):FnOk P w K mg base CX0 5 f fd ["corners"] r9:=by
 refine F.ok zV (by rintro _ _ _ _⟨l,rf,cs,rfl,_⟩;rfl) fun C6 A outer s H vs Q E hr h=>?_
 obtain⟨l,rf,cs,rfl,hp,co,n4,q⟩:=h;have hu:=hr.un;refine⟨_,ax (bc (PW.pt (e_ (aV lM (aE aM rfl ml ZF (pa1 (pv 0))) (gT (v:=.int 3) rfl m3 ⟨_,rfl⟩)) (fL (aV ik (aE aM rfl ml ZF (pa1 (pv 0))) (gT (v:=.int 12) rfl DP ⟨_,rfl⟩))))) (ak (aC cw)) aQ)
  (ax (bc (aV lM (aE ot rfl ml ZF (pa1 (gH (qu rfl (by show A.units+3+20<_;have:A.units+3+16*4+200<cLine:=hu;lia)) rfl ms TR (pa1 (pv 0))))) (aE aM rfl ml ZF (pa1 (pv 0)))) (ak (aC cw)) aQ)
  (ak (aC (jq (lO (aB cB hr (pa1 (pv 0)))) (jE (lO (aB cM hr (pa1 (pv 0))))))))),?_⟩
 refine⟨_,rfl,l,_,rfl,.inl (SqL.of hp.1),_,_,rfl,rfl,_,rfl,?_⟩;rw[ai];refine a9 (fun c1=>?_) (fun c1=>?_)
 ·refine dt ?_;have c1':=Zi c1;exact q false H (av.refl _) ⟨fun z=>ZR z,fun F=>by have:=F.lo;lia⟩
 have c1':¬_:=fun z=>c1 (Zo z);refine⟨_,rfl,l,_,rfl,.inl (SqL.of hp.1),_,_,rfl,rfl,_,rfl,?_⟩;rw[ai];refine a9 (fun c2=>?_) (fun c2=>?_)
 ·have c2':=Zi c2;exact q false H (av.refl _) ⟨fun z=>ZR z,fun F=>by have:=F.hi;lia⟩
 have c2':¬_:=fun z=>c2 (Zo z);refine⟨_,rfl,l,rf,fun i=>(at' cs i).1,fun i=>(at' cs i).2,cs.length,rfl,SqL.of hp.1,by lia,fun i hi=>hp.2 i hi,fun p hp'=>?_⟩
 have s1:=ao hp' (uT p (FS.dN (fun i=>[(at' cs i).1,(at' cs i).2]) cs.length));refine⟨p,_,rfl,ah,_,rfl,l,_,rfl,.inl (SqL.of (s1 _ _ hp.1)),_,_,rfl,rfl,_,rfl,?_⟩;rw[ai];have ki:=zX (cs:=cs);refine a9 (fun c3=>?_) (fun c3=>?_)
 ·have c3':((FS.dN (fun i=>[(at' cs i).1,(at' cs i).2]) cs.length:Nat):Int)<(cs.length:Int):=Zi c3;refine q false _ s1 ⟨fun z=>ZR z,fun F=>?_⟩;exact absurd F.ok.inj (ki.mp (by lia))
 have c3':¬((FS.dN (fun i=>[(at' cs i).1,(at' cs i).2]) cs.length:Nat):Int)<(cs.length:Int):=fun z=>c3 (Zo z);have inj:∀i j,i<cs.length->j<cs.length->at' cs i=at' cs j->i=j:=by
  apply Zz;intro no
  have:=ki.mpr no
  lia
 refine⟨_,rfl,l,rf,cs,rfl,hp.mono s1,co,by lia,n4,fun b hb=>⟨_,rfl,_,rfl,?_⟩⟩
 refine a9 (fun c4=>?_) (fun c4=>?_)
 ·have nb:¬jb cs:=fun z=>by
   have:=hb.mpr z
   rw[this]at c4;exact absurd c4 (by decide)
  refine⟨_,rfl,l,rf,cs,rfl,hp.mono s1,co,by lia,n4,fun b2 H2 s2 hb2=>⟨_,rfl,?_⟩⟩
  refine q _ H2 (s1.trans s2) ?_;rw[jz,Ym,<-Bool.not_eq_true,hb2];constructor
  ·intro nm;exact⟨by lia,by lia,inj,nb,nm⟩
  ·rintro⟨_,_,_,_,nm⟩;exact nm
 ·have yb:jb cs:=hb.mp (by cases b with|true=>rfl|false=>exact absurd rfl c4)
  refine q false _ s1 ⟨fun z=>ZR z,fun F=>?_⟩;exact absurd yb (jz.mp F).2.2.2.1
theorem xK:aD ["corners"] ["corners"] (au ni):=.mk'
theorem vv(F:Fun K "refuse_no_fence" "refuse_no_fence" ni f fd)(cF:Cal P w K mg base 5 "is_fence" ["corners"] r9):FnOk P w K mg base CX0 6 f fd ["corners"] kL:=by
 refine F.ok xK (by rintro _ _ _ _⟨l,rf,cs,rfl,_⟩;rfl) fun C6 A outer s H vs Q E hr h=>?_
 obtain⟨l,rf,cs,rfl,hp,co,fe,q⟩:=h;refine⟨_,ak (bc (eJ (bG (aB cF hr (pa1 (pv 0))))) wv aQ),?_⟩
 refine⟨_,rfl,l,rf,cs,rfl,hp,co,by have:=fe.hi;lia,fun b H' sH hb=>⟨_,rfl,?_⟩⟩
 rw[hb.mpr fe];exact eH (q H' sH)
theorem zr:(["start","end"]:List Str).Nodup:=by decide +kernel
theorem xQ:aD ["corners"] ["corners"] (au j4):=.mk'
theorem u_(F:Fun K "signed_double_area" "signed_double_area" j4 f fd)(cS:Cal P w K mg base 1 "sides_of" ["corners"] kg)(m1:mg "sum" = none):FnOk P w K mg base CX0 2 f fd ["corners"] lu:=by
 refine F.ok xQ (by rintro _ _ _ _⟨l,rf,cs,rfl,_⟩;rfl) fun C6 A outer s H vs Q E hr h=>?_
 obtain⟨l,rf,cs,rfl,hp,co,n1,n4,q⟩:=h;refine⟨_,ak (aC (aE (oz rfl) rfl m1 TU (pa1 (fD (N':=["start","end"]) (own:=2) (ae:=[]) rfl (aT.of (sc:=au j4) (N0:=["corners"]) rfl rfl (by decide +kernel)) (b9 (aB cS hr (pa1 (pv 0))))
  (fun C cl fp aa s₂ H₂=>kw (n:=2) rfl (bD (aI (i:=0) zr rfl (ZQ rfl)) (bD (aI (i:=1) zr rfl (ZQ rfl)) gY))) (fun C cl fp aa s₂ H₂=>eZ)
  (fun C cl fp aa s₂ H₂=>ag aS (ag bQ (am gW (pv 0) ad) (am gW (pv 1) ad)) (ag bQ (am gW (pv 1) ad) (am gW (pv 0) ad))))))),?_⟩
 refine⟨_,rfl,l,rf,cs,rfl,hp,n1,n4,fun r ts H1 s1 De=>?_⟩;refine⟨r,rfl,⟨_,SqL.of De.1⟩,?_⟩;have pP:∀k,k<cs.length->PtA H1 (rf k) (at' cs k):=fun k hk=>s1 _ _ (hp.2 k hk);refine⟨cs.length,fun i ys H'=>H'=H1/\ys=(Z4 i).map fun i=>V.int (cr (at' cs i) (at' cs (nx cs.length i))),a_ (by lia),⟨rfl,rfl⟩,fun ys H' hW=>⟨⟨aj cs.length ts,by rw[hW.1];exact SqL.of De.1,by rw[ai];exact Nat.le_refl _⟩,fun D hD=>?_⟩,
  fun i ys H' hi hW=>⟨⟨aj cs.length ts,_,by rw[hW.1];exact SqL.of De.1,aR hi⟩,fun x H2 hy=>?_⟩⟩
 ·obtain⟨rfl,rfl⟩:=hW;refine⟨D,(Z4 cs.length).map fun i=>cr (at' cs i) (at' cs (nx cs.length i)),rfl,?_,?_⟩
  ·rw[Yl];exact SqL.of ah
  ·rw[xy n1];exact q _ (s1.trans (ao hD _))
 ·obtain⟨rfl,rfl⟩:=hW;obtain⟨rfl,hy⟩:=hy;obtain⟨_,rfl⟩:=bU (hy _ (SqL.of De.1));have t1:=De.2 i hi;have b:=CA (co _ hi) (co _ (aH hi));refine⟨_,_,rfl,SqT.of t1,rfl,_,_,rfl,_,_,rfl,rfl,l8 (by decide) (by decide),?_⟩
  refine dt ?_;refine⟨_,rfl,_,_,_,_,rfl,rfl,SqT.of (pP _ hi),at0,_,rfl,_,_,_,_,rfl,rfl,SqT.of (pP _ (aH hi)),at1,_,_,rfl,rfl,⟨b.1,b.2.1⟩,_,rfl,_,_,_,_,rfl,rfl,SqT.of (pP _ (aH hi)),at0,_,rfl,_,_,_,_,rfl,rfl,SqT.of (pP _ hi),at1,_,_,rfl,rfl,⟨b.2.2.1,b.2.2.2⟩,_,_,rfl,rfl,rfl,?_⟩;rw[Xg,ZL];rfl
theorem BF:aD ["corners"] ["corners"] (au tV):=.mk'
theorem Av(F:Fun K "double_area" "double_area" tV f fd)(cR:Cal P w K mg base 6 "refuse_no_fence" ["corners"] kL)(cS:Cal P w K mg base 2 "signed_double_area" ["corners"] lu)(m1:mg "abs" = none):FnOk P w K mg base CX0 7 f fd ["corners"] u9:=by
 refine F.ok BF (by rintro _ _ _ _⟨l,rf,cs,rfl,_⟩;rfl) fun C6 A outer s H vs Q E hr h=>?_
 obtain⟨l,rf,cs,rfl,hp,co,fe,q⟩:=h;refine⟨_,ax (eX (aB cR hr (pa1 (pv 0)))) (ak (aC (aE gs rfl m1 YL (pa1 (aB cS hr (pa1 (pv 0))))))),?_⟩
 have:=fe.lo
 have:=fe.hi
 refine⟨_,rfl,l,rf,cs,rfl,hp,co,fe,fun H1 s1=>?_⟩;exact⟨_,rfl,l,rf,cs,rfl,hp.mono s1,co,by lia,by lia,fun H2 s2=>⟨_,rfl,q H2 (s1.trans s2)⟩⟩
theorem BB:aD ["corners"] ["corners"] (au uF):=.mk'
theorem AO(F:Fun K "goes_left" "goes_left" uF f fd)(cR:Cal P w K mg base 6 "refuse_no_fence" ["corners"] kL)(cS:Cal P w K mg base 2 "signed_double_area" ["corners"] lu):FnOk P w K mg base CX0 7 f fd ["corners"] vZ:=by
 refine F.ok BB (by rintro _ _ _ _⟨l,rf,cs,rfl,_⟩;rfl) fun C6 A outer s H vs Q E hr h=>?_
 obtain⟨l,rf,cs,rfl,hp,co,fe,q⟩:=h;refine⟨_,ax (eX (aB cR hr (pa1 (pv 0)))) (ak (aC (gP ik (aB cS hr (pa1 (pv 0))) ad))),?_⟩
 have:=fe.lo
 have:=fe.hi
 refine⟨_,rfl,l,rf,cs,rfl,hp,co,fe,fun H1 s1=>?_⟩;exact⟨_,rfl,l,rf,cs,rfl,hp.mono s1,co,by lia,by lia,fun H2 s2=>⟨_,_,rfl,rfl,q H2 (s1.trans s2)⟩⟩
end
end FD
end
section
namespace FD
open PySem L2 FF
noncomputable abbrev tS:Stmt:=top 35
noncomputable abbrev tX:Stmt:=top 36
noncomputable abbrev uK:Stmt:=top 38
noncomputable abbrev mO:Stmt:=top 39
noncomputable abbrev mI:Stmt:=top 40
theorem av.updN{H H1:Hp}{l:Addr}{o:HO}(s:av H H1)(h:H l=none):av H (upd H1 l o):=fun b u q=>by rw[aG (a8 q h)];exact s b u q
theorem ic{xs:List V}{n:Nat}{rf:Nat->Addr}(hl:xs.length=n)(h:∀i,i<n->xs[i]?=some (.ref (rf i))):xs=aj n rf:=by
 apply XF;intro i;by_cases c:i<n
 ·rw[h i c,aR c]
 ·rw[ZS (by lia),ZS (by rw[ai];lia)]
theorem gE{n:Nat}{rf:Nat->Addr}{t:Addr}:aj n rf++[.ref t]=aj (n+1) (fun i=>if i<n then rf i else t):=by
 refine ic (by rw[Z5,ai];rfl) fun i hi=>?_
 by_cases c:i<n
 ·rw[ZW (by rw[ai];exact c),aR c,if_pos c]
 ·rw[Yt (by rw[ai];lia),ai,if_neg c,show i-n=0 by lia];rfl
theorem ym{n m:Nat}{rf rg:Nat->Addr}:aj n rf++aj m rg=aj (n+m) (fun i=>if i<n then rf i else rg (i-n)):=by
 refine ic (by rw[Z5,ai,ai]) fun i hi=>?_
 by_cases c:i<n
 ·rw[ZW (by rw[ai];exact c),aR c,if_pos c]
 ·rw[Yt (by rw[ai];lia),ai,if_neg c,aR (by lia)]
theorem xC{n:Nat}{rf:Nat->Addr}:(aj n rf).reverse=aj n (fun i=>rf (n-1-i)):=by
 refine ic (by rw[ZA,ai]) fun i hi=>?_
 rw[XB (by rw[ai];exact hi),ai,aR (by lia)]
theorem v4{n k:Nat}{rf:Nat->Addr}:(aj n rf).drop k=aj (n-k) (fun i=>rf (k+i)):=by
 refine ic (by rw[Zp,ai]) fun i hi=>?_
 rw[Xi,aR (by lia)]
theorem nK{n k:Nat}{rf:Nat->Addr}(h:k<=n):(aj n rf).take k=aj k rf:=by
 refine ic (by rw[Za,ai];lia) fun i hi=>?_
 rw[YA hi,aR (by lia)]
theorem PLs.at_upd{H H':Hp}{l l':Addr}{rf:Nat->Addr}{cs:List Pt}(h:PLs H l rf cs)(s:av H H'){rg:Nat->Addr}{ds:List Pt}(e:H' l'=some (.lst (aj ds.length rg)))(hd:∀i,i<ds.length->∃j,j<cs.length/\rg i=rf j/\at' ds i=at' cs j):PLs H' l' rg ds:=
 ⟨e,fun i hi=>by obtain⟨j,hj,e1,e2⟩:=hd i hi;rw[e1,e2];exact s _ _ (h.2 j hj)⟩
theorem sQ{H H':Hp}{l l':Addr}{rf:Nat->Addr}{cs:List Pt}(h:PLs H l rf cs)(s:av H H')(e:H' l'=some (.lst (aj cs.length rf).reverse)):PLs H' l' (fun i=>rf (cs.length-1-i)) cs.reverse:=by
 refine h.at_upd s (by rw[e,xC,ZA]) fun i hi=>⟨cs.length-1-i,?_,rfl,?_⟩
 ·rw[ZA]at hi;lia
 ·rw[ZA]at hi;exact jo hi
theorem kz{H:Hp}{l l2 l':Addr}{rf rg:Nat->Addr}{cs ds:List Pt}(h:PLs H l rf cs)(h2:PLs H l2 rg ds){H':Hp}(s:av H H')(e:H' l'=some (.lst (aj cs.length rf++aj ds.length rg))):PLs H' l' (fun i=>if i<cs.length then rf i else rg (i-cs.length)) (cs++ds):=by
 refine⟨by rw[e,ym,Z5],fun i hi=>?_⟩
 rw[Z5]at hi;rw[bf];by_cases c:i<cs.length
 ·simp only[if_pos c];exact s _ _ (h.2 i c)
 ·simp only[if_neg c];exact s _ _ (h2.2 (i-cs.length) (by lia))
theorem qF{H H':Hp}{l l':Addr}{rf:Nat->Addr}{cs:List Pt}(h:PLs H l rf cs)(s:av H H')(e:H' l'=some (.lst (aj cs.length rf))):PLs H' l' rf cs:=⟨e,fun i hi=>s _ _ (h.2 i hi)⟩
noncomputable def Scr(K:Z1)(H:Hp)(a:Addr)(ns:List Int):Prop:=SqL K H a (ns.map V.int)/\ns.length<=63
theorem Scr.mono{K:Z1}{H H':Hp}{a:Addr}{ns:List Int}(h:Scr K H a ns)(s:av H H'):Scr K H' a ns:=⟨s.seq h.1,h.2⟩
noncomputable def g8(K:Z1):Sp:=fun vs H Q _=>∃a ns k,vs=[.ref a,.int ((k:Nat):Int)]/\Scr K H a ns/\Q (.int (cell ns k)) H
noncomputable def vm:Sp:=fun vs H Q _=>∃c k b,vs=[.int c,.int k,.int b]/\0<b/\(-(2^60)<k/\k<2^60)/\Q (.int (draw c k b)) H
noncomputable def u5(K:Z1):Sp:=fun vs H Q _=>∃a ns f,vs=[.ref a,.int ((f:Nat):Int)]/\Scr K H a ns/\∀r lo hi rl rh H',av H H'->H' r=some (.lst [.ref lo,.ref hi,.int (cell ns f/5%4)])->PLs H' lo rl (bu ns f)->PLs H' hi rh (bj ns f)->Q (.ref r) H'
noncomputable def pz:Sp:=fun vs H Q _=>∃lo hi af rl rh L Hs,vs=[.ref lo,.ref hi,.int af]/\PLs H lo rl L/\PLs H hi rh Hs/\2<=L.length/\L.length<=100/\2<=Hs.length/\Hs.length<=100/\∀r rf H',av H H'->PLs H' r rf (joined L Hs af)->Q (.ref r) H'
noncomputable def pH:Sp:=fun vs H Q _=>∃c,vs=[.int c]/\∀r rf H',av H H'->PLs H' r rf (spiral c)->Q (.ref r) H'
section
variable{P:Zy}{w:Zm}{K:Z1}{mg:Str->Option Value}{base:ZE}{f:Addr}{fd:ZD}
theorem A3:aD ["script","k"] ["script","k"] (au tS):=.mk'
theorem AQ{n:Nat}(F:Fun K "_law_cell_at" "_law_cell_at" tS f fd)(ml:mg "len" = none):FnOk P w K mg base CX0 (n+1) f fd ["script","k"] (g8 K):=by
 refine F.ok A3 (by rintro _ _ _ _⟨a,ns,k,rfl,_⟩;rfl) fun C6 A outer s H vs Q E hr h=>?_
 obtain⟨a,ns,k,rfl,hS,q⟩:=h;refine⟨_,ax (bc (aV lM (pv 1) (aE aM rfl ml ZF (pa1 (pv 0)))) (ak (aC (am aF (pv 0) (pv 1)))) aQ) (ak (aC ad)),?_⟩;refine⟨_,rfl,_,rfl,a,_,rfl,.inl hS.1,_,_,rfl,rfl,_,rfl,?_⟩;rw[Z7];refine a9 (fun c=>?_) (fun c=>?_)
 ·have c':=Zi c;have hk:k<ns.length:=by lia
  refine⟨_,rfl,_,rfl,a,_,_,.int (cell ns k),rfl,rfl,hS.1,jZ ?_,q⟩;rw[Zj,Z3 hk];unfold cell;rw[Z2,Z3 hk];rfl
 ·have c':¬_:=fun z=>c (Zo z);have e:cell ns k=0:=by unfold cell;rw[Z2,ZS (by lia)];rfl
  rw[e]at q;exact q
theorem qr:aD ["cell","k","bound","stir"] ["cell","k","bound"] (au tX):=.mk'
theorem AC{n:Nat}(F:Fun K "_law_draw" "_law_draw" tX f fd):FnOk P w K mg base CX0 (n+1) f fd ["cell","k","bound"] vm:=by
 refine F.ok qr (by rintro _ _ _ _⟨c,k,b,rfl,_⟩;rfl) fun C6 A outer s H vs Q E hr h=>?_
 obtain⟨c,k,b,rfl,hb,hk,q⟩:=h;refine⟨_,ax (ay (i:=3) qr.nd (ag bP (ag fQ (ag aW (ag aW (ag bP (pv 0) ad) (ag fQ ad (pv 1))) ad) ad) ad))
  (ax (ay (i:=3) qr.nd (ag bP (ag fQ (ag aW (pv 3) (ag fQ ad (ag aW (pv 1) ad))) ad) ad))
  (ak (aC (ag bP (ag dZ (pv 3) ad) (pv 2))))),?_⟩
 refine⟨_,rfl,_,_,rfl,rfl,(show (0:Int)<2147483647 by decide),_,rfl,_,_,rfl,rfl,.inl ⟨by decide,by decide⟩,_,_,rfl,rfl,_,_,rfl,rfl,_,_,rfl,rfl,.inr ⟨by decide,by decide⟩,_,_,rfl,rfl,(show (0:Int)<2147483647 by decide),?_⟩
 refine⟨_,rfl,_,rfl,_,_,rfl,rfl,_,_,rfl,rfl,.inl ⟨by decide,by decide⟩,_,_,rfl,rfl,_,_,rfl,rfl,.inr ⟨by decide,by decide⟩,_,_,rfl,rfl,(show (0:Int)<2147483629 by decide),?_⟩
 exact⟨_,rfl,_,_,rfl,rfl,⟨by decide,by decide⟩,_,rfl,_,_,rfl,rfl,hb,q⟩
theorem fT:aD ["script","first","cell","many","x","lows","highs","k","low"] ["script","first"] (au uK):=.mk'
theorem zW(F:Fun K "_law_rows_by" "_law_rows_by" uK f fd)(cC:Cal P w K mg base 1 "_law_cell_at" ["script","k"] (g8 K))(cD:Cal P w K mg base 1 "_law_draw" ["cell","k","bound"] vm)(mr:mg "range" = none):FnOk P w K mg base CX0 2 f fd ["script","first"] (u5 K):=by
 refine F.ok fT (by rintro _ _ _ _⟨a,ns,k,rfl,_⟩;rfl) fun C6 A outer s H vs Q E hr h=>?_
 obtain⟨a,ns,m,rfl,hS,q⟩:=h;refine⟨_,ax (ay (i:=2) fT.nd (aB cC hr (pa2 (pv 0) (pv 1))))
  (ax (ay (i:=3) fT.nd (ag aW ad (ag bP (pv 2) ad)))
  (ax (ay (i:=4) fT.nd ad)
  (ax (ay (i:=5) fT.nd (cN ie))
  (ax (ay (i:=6) fT.nd (cN ie))
  (ax (dF ZU rfl (dH rfl mr (pa1 (pv 3))) (aI (i:=7) fT.nd rfl (ZQ rfl))
   (ax (ay (i:=8) fT.nd (ag aS (aB cD hr (pa3 (aB cC hr (pa2 (pv 0) (ag aW (pv 1) ad))) (pv 7) ad)) ad))
   (ax (eX (ko Yr Xv Xu iB (pv 5) (pa1 (b7 (pa2 (pv 4) (pv 8))))))
   (ax (eX (ko Yr Xv Xu iB (pv 6) (pa1 (b7 (pa2 (pv 4) (ag aW (ag aW (pv 8) ad) (aB cD hr (pa3 (aB cC hr (pa2 (pv 0) (ag aW (pv 1) ad))) (pv 7) ad))))))))
   (ak (ay (i:=4) fT.nd (ag aW (ag aW (pv 4) ad) (aB cD hr (pa3 (aB cC hr (pa2 (pv 0) (ag aW (pv 1) ad))) (pv 7) ad)))))))))
  (ak (aC (cN (pa3 (pv 5) (pv 6) (ag bP (ag dZ (pv 2) ad) ad)))))))))),?_⟩
 refine⟨_,rfl,_,rfl,a,ns,m,rfl,hS,?_⟩;refine⟨_,rfl,_,_,rfl,rfl,(show (0:Int)<5 by decide),_,_,rfl,rfl,?_⟩
 refine⟨by show 0<=sizeLine;decide,fun lo hlo=>?_⟩
 refine⟨by show 0<=sizeLine;decide,fun hi hhi=>?_⟩
 have D':lo≠hi:=fun e=>by rw[<-e,ah]at hhi;cases hhi
 have hhi0:H hi=none:=by rw[aG (Ne.symm D')]at hhi;exact hhi
 have hmod:=Int.emod_nonneg (cell ns m) (show (5:Int)≠0 by decide)
 have hmod2:=Int.emod_lt_of_pos (cell ns m) (show (0:Int)<5 by decide)
 refine⟨_,rfl,_,rfl,by lia,by lia,?_⟩
 have eM:(2+cell ns m%5).toNat=bA (cell ns m):=rfl;rw[eM];have cM:bA (cell ns m)<=6:=by unfold bA;lia
 generalize hMg:bA (cell ns m)=M at *
 refine fJ (fun i σ H'=>(∃x7 x8,σ=[some (.ref a),some (.int m),some (.int (cell ns m)),some (.int (2+cell ns m%5)),some (.int (xAt (cell ns (m+3)) i)),some (.ref lo),some (.ref hi),x7,x8])/\av H H'/\
   (∃rl,PLs H' lo rl (loL i (xAt (cell ns (m+3))) (b_ (cell ns (m+1)))))/\∃rh,PLs H' hi rh (loL i (xAt (cell ns (m+3))) (bp (cell ns (m+1)) (cell ns (m+2)))))
  ⟨⟨none,none,rfl⟩,(av.updN (av.updN (av.refl H) hlo) hhi0),⟨fun _=>lo,by rw[aG D',ah];rfl,fun i hi=>absurd hi (by rw[aK];lia)⟩,⟨fun _=>lo,by rw[ah];rfl,fun i hi=>absurd hi (by rw[aK];lia)⟩⟩ ?_ ?_
 ·rintro i σ H' hi' ⟨⟨x7,x8,rfl⟩,sH,⟨rl,hL⟩,rh,hR⟩;have ei:(0:Int)+(i:Int)=(i:Int):=by lia
  rw[ei];have e1:∀j:Nat,((m:Nat):Int)+((j:Nat):Int)=((m+j:Nat):Int):=fun j=>by lia
  have hSm:=hS.mono sH;have bi:-(2^60)<(i:Int)/\(i:Int)<2^60:=by lia
  refine⟨_,rfl,_,rfl,_,_,rfl,rfl,a,ns,m+1,by rw[<-e1 1];rfl,hSm,_,rfl,_,i,9,rfl,by decide,bi,_,_,rfl,rfl,?_⟩
  refine⟨_,rfl,.inl ⟨rfl,_,SqL.of hL.1⟩,_,rfl,_,rfl,by show 2<=sizeLine;decide,fun t ht=>?_⟩
  have st:=ao ht (.tup [.int (xAt (cell ns (m+3)) i),.int (draw (cell ns (m+1)) i 9-4)]);have nlt:lo≠t:=fun e=>by rw[<-e,hL.1]at ht;cases ht
  have nht:hi≠t:=fun e=>by rw[<-e,hR.1]at ht;cases ht
  refine⟨lo,_,_,rfl,rfl,st _ _ hL.1,by rw[ai,aK];exact jh (by lia),?_⟩
  have hL2:PLs (upd (upd H' t (.tup [.int (xAt (cell ns (m+3)) i),.int (draw (cell ns (m+1)) i 9-4)])) lo (.lst (aj (loL i (xAt (cell ns (m+3))) (b_ (cell ns (m+1)))).length rl++[.ref t]))) lo (fun j=>if j<i then rl j else t) (loL (i+1) (xAt (cell ns (m+3))) (b_ (cell ns (m+1)))):=by
   refine⟨by rw[ah,gE,aK,aK],fun j hj=>?_⟩
   rw[aK]at hj;unfold PtA;by_cases c:j<i
   ·have:=hL.2 j (by rw[aK];exact c)
    rw[bZ c]at this;rw[bZ hj];dsimp only;rw[if_pos c];have n1:rl j≠lo:=jf this hL.1 (by intro z;cases z)
    rw[aG n1];exact st _ _ this
   ·have ej:j=i:=by lia
    subst ej;rw[bZ hj];dsimp only;rw[if_neg c,aG (Ne.symm nlt),ah];rfl
  have hH2:∀b o,b≠lo->H' b=some o->(upd (upd H' t (.tup [.int (xAt (cell ns (m+3)) i),.int (draw (cell ns (m+1)) i 9-4)])) lo (.lst (aj (loL i (xAt (cell ns (m+3))) (b_ (cell ns (m+1)))).length rl++[.ref t]))) b=some o:=fun b o hb e=>by rw[aG hb];exact st _ _ e
  have sH2:av H (upd (upd H' t (.tup [.int (xAt (cell ns (m+3)) i),.int (draw (cell ns (m+1)) i 9-4)])) lo (.lst (aj (loL i (xAt (cell ns (m+3))) (b_ (cell ns (m+1)))).length rl++[.ref t]))):=av.updN (sH.trans st) hlo;generalize upd (upd H' t (.tup [.int (xAt (cell ns (m+3)) i),.int (draw (cell ns (m+1)) i 9-4)])) lo (.lst (aj (loL i (xAt (cell ns (m+3))) (b_ (cell ns (m+1)))).length rl++[.ref t]))=H2 at *
  have hR2:PLs H2 hi rh (loL i (xAt (cell ns (m+3))) (bp (cell ns (m+1)) (cell ns (m+2)))):=by
   refine⟨hH2 _ _ (Ne.symm D') hR.1,fun j hj=>?_⟩
   have:=hR.2 j hj
   exact hH2 _ _ (jf this hL.1 (by intro z;cases z)) this
  have DC:=hS.mono sH2;refine⟨_,rfl,.inl ⟨rfl,_,SqL.of hR2.1⟩,_,rfl,_,rfl,_,_,rfl,rfl,_,rfl,_,rfl,_,_,rfl,rfl,a,ns,m+2,by rw[<-e1 2];rfl,DC,_,rfl,_,i,5,rfl,by decide,bi,_,_,rfl,rfl,by show 2<=sizeLine;decide,fun t2 ht2=>?_⟩
  have Dp:=ao ht2 (.tup [.int (xAt (cell ns (m+3)) i),.int (draw (cell ns (m+1)) i 9-4+1+draw (cell ns (m+2)) i 5)]);have nlt2:lo≠t2:=fun e=>by rw[<-e,hL2.1]at ht2;cases ht2
  have nht2:hi≠t2:=fun e=>by rw[<-e,hR2.1]at ht2;cases ht2
  refine⟨hi,_,_,rfl,rfl,Dp _ _ hR2.1,by rw[ai,aK];exact jh (by lia),?_⟩
  have hR3:PLs (upd (upd H2 t2 (.tup [.int (xAt (cell ns (m+3)) i),.int (draw (cell ns (m+1)) i 9-4+1+draw (cell ns (m+2)) i 5)])) hi (.lst (aj (loL i (xAt (cell ns (m+3))) (bp (cell ns (m+1)) (cell ns (m+2)))).length rh++[.ref t2]))) hi (fun j=>if j<i then rh j else t2) (loL (i+1) (xAt (cell ns (m+3))) (bp (cell ns (m+1)) (cell ns (m+2)))):=by
   refine⟨by rw[ah,gE,aK,aK],fun j hj=>?_⟩
   rw[aK]at hj;unfold PtA;by_cases c:j<i
   ·have:=hR2.2 j (by rw[aK];exact c)
    rw[bZ c]at this;rw[bZ hj];dsimp only;rw[if_pos c];have n1:rh j≠hi:=jf this hR2.1 (by intro z;cases z)
    rw[aG n1];exact Dp _ _ this
   ·have ej:j=i:=by lia
    subst ej;rw[bZ hj];dsimp only;rw[if_neg c,aG (Ne.symm nht2),ah];rfl
  have hH3:∀b o,b≠hi->H2 b=some o->(upd (upd H2 t2 (.tup [.int (xAt (cell ns (m+3)) i),.int (draw (cell ns (m+1)) i 9-4+1+draw (cell ns (m+2)) i 5)])) hi (.lst (aj (loL i (xAt (cell ns (m+3))) (bp (cell ns (m+1)) (cell ns (m+2)))).length rh++[.ref t2]))) b=some o:=fun b o hb e=>by rw[aG hb];exact Dp _ _ e
  have sH3:av H (upd (upd H2 t2 (.tup [.int (xAt (cell ns (m+3)) i),.int (draw (cell ns (m+1)) i 9-4+1+draw (cell ns (m+2)) i 5)])) hi (.lst (aj (loL i (xAt (cell ns (m+3))) (bp (cell ns (m+1)) (cell ns (m+2)))).length rh++[.ref t2]))):=av.updN (sH2.trans Dp) hhi0;generalize upd (upd H2 t2 (.tup [.int (xAt (cell ns (m+3)) i),.int (draw (cell ns (m+1)) i 9-4+1+draw (cell ns (m+2)) i 5)])) hi (.lst (aj (loL i (xAt (cell ns (m+3))) (bp (cell ns (m+1)) (cell ns (m+2)))).length rh++[.ref t2]))=H3 at *
  have hL3:PLs H3 lo (fun j=>if j<i then rl j else t) (loL (i+1) (xAt (cell ns (m+3))) (b_ (cell ns (m+1)))):=by
   refine⟨hH3 _ _ D' hL2.1,fun j hj=>?_⟩
   have:=hL2.2 j hj
   exact hH3 _ _ (jf this hR2.1 (by intro z;cases z)) this
  have hS3:=hS.mono sH3;refine⟨_,rfl,_,_,rfl,rfl,_,rfl,_,rfl,_,_,rfl,rfl,a,ns,m+3,by rw[<-e1 3];rfl,hS3,_,rfl,_,i,3,rfl,by decide,bi,_,_,rfl,rfl,?_⟩
  exact⟨⟨_,_,rfl⟩,sH3,⟨_,hL3⟩,_,hR3⟩
 ·rintro σ H' ⟨⟨x7,x8,rfl⟩,sH,⟨rl,hL⟩,rh,hR⟩;refine⟨_,rfl,_,rfl,_,rfl,_,_,rfl,rfl,⟨by decide,by decide⟩,_,_,rfl,rfl,(show (0:Int)<4 by decide),by show 3<=sizeLine;decide,fun r hr'=>?_⟩
  have sr:=ao hr' (.lst [.ref lo,.ref hi,.int (cell ns m/5%4)]);refine q r lo hi rl rh _ (sH.trans sr) ah ?_ ?_
  ·unfold bu;rw[hMg];exact hL.mono sr
  ·unfold bj;rw[hMg];exact hR.mono sr
end
end FD
end
section
namespace FD
open PySem L2 FF
theorem via{G:Prop}{K Pm:Hp->Prop}(main:(∀H1,Pm H1->K H1)->G)(rest:∀H1,Pm H1->K H1):G:=main rest
theorem sX{H:Hp}{t:Addr}{rt Ek:Nat->Addr}{T T':List Pt}{xs:List V}(h:PLs H t rt T)(e:xs=aj T'.length Ek)(hd:∀i,i<T'.length->∃j,j<T.length/\Ek i=rt j/\at' T' i=at' T j):PLs (upd H t (.lst xs)) t Ek T':=
 ⟨by rw[ah,e],fun i hi=>by
  obtain⟨j,hj,e1,e2⟩:=hd i hi;rw[e1,e2]
  have:=h.2 j hj
  unfold PtA;rw[aG (jf this h.1 (by intro z;cases z))];exact this⟩
section
variable{P:Zy}{w:Zm}{K:Z1}{mg:Str->Option Value}{base:ZE}{f:Addr}{fd:ZD}
theorem qJ:aD ["lows","highs","tips","top"] ["lows","highs","tips"] (au mO):=.mk'
theorem wt{n:Nat}(F:Fun K "_law_joined" "_law_joined" mO f fd)(ml:mg "list" = none)(El:mg "reversed" = none)(mn:mg "len" = none):FnOk P w K mg base CX0 (n+1) f fd ["lows","highs","tips"] pz:=by
 refine F.ok qJ (by rintro _ _ _ _⟨lo,hi,af,rl,rh,L,Hs,rfl,_⟩;rfl) fun C6 A outer s H vs Q E hr h=>?_
 obtain⟨lo,hi,af,rl,rh,L,Hs,rfl,hL,hR,l2,l100,r2,r100,q⟩:=h;refine⟨_,ax (ay (i:=3) qJ.nd (gH jF rfl ml Yi (pa1 (pv 1))))
  (ax (bc (aV dM (ag bP (pv 2) ad) ad) (ak (eX (ko Yr Wy Wx xz (pv 3) (pa1 ad)))) aQ)
  (ax (bc (PW.pt (jt (aV ik (pv 2) ad) (j7 (aV ik (ag aW (aE aM rfl mn ZF (pa1 (pv 0))) (aE aM rfl mn ZF (pa1 (pv 3)))) ad)))) (ak (eX (vM Yr Wy Wx wW (pv 3)))) aQ)
  (ak (aC (ag gG (pv 0) (fN rfl rfl ml rfl El (pa1 (pv 3)))))))),?_⟩
 refine⟨_,rfl,hi,_,rfl,.inl (SqL.of hR.1),fun t ht=>?_⟩;have s1:=ao ht (.lst (aj Hs.length rh));have hT:PLs (upd H t (.lst (aj Hs.length rh))) t rh Hs:=qF hR s1 ah;generalize upd H t (.lst (aj Hs.length rh))=H1 at *
 refine⟨_,rfl,_,_,rfl,rfl,(show (0:Int)<2 by decide),rfl,_,rfl,?_⟩
 rw[df];apply via (Pm:=fun H2=>av H H2/\∃rt,PLs H2 t rt (if af%2=1 then Hs.eraseIdx 0 else Hs))
 ·intro rest;refine a9 (fun c=>?_) (fun c=>?_)
  ·have c':af%2=1:=by simpa using c
   have h0:(aj Hs.length rh)[0]?=some (.ref (rh 0)):=aR (by lia)
   refine⟨_,rfl,.inl ⟨rfl,_,SqL.of hT.1⟩,t,_,0,0,_,rfl,rfl,hT.1,by decide,by decide,?_,h0,?_⟩
   ·rw[ai];have hz:(0:Int)<(Hs.length:Int):=by lia
    unfold seqIndex?;have hn:Hs≠[]:=fun z=>by rw[z]at hz;exact absurd hz (by decide)
    simp[hz,hn]
   have hT2:PLs (upd H1 t (.lst ((aj Hs.length rh).eraseIdx 0))) t (fun i=>rh (1+i)) (Hs.eraseIdx 0):=by
    refine sX hT ?_ fun i hi=>⟨1+i,?_,rfl,?_⟩
    ·rw[YN,YN,<-VS,v4,Wo]
    ·rw[YN,Wo]at hi;lia
    ·rw[YN,<-VS];exact br
   have s2:av H (upd H1 t (.lst ((aj Hs.length rh).eraseIdx 0))):=av.updN s1 ht;generalize upd H1 t (.lst ((aj Hs.length rh).eraseIdx 0))=H2 at *
   exact rest H2 ⟨s2,_,by rw[if_pos c'];exact hT2⟩
  ·have c':¬af%2=1:=by simpa using c
   exact rest H1 ⟨s1,rh,by rw[if_neg c'];exact hT⟩
 rintro H2 ⟨s2,rt,hT2⟩;have hlen:(if af%2=1 then Hs.eraseIdx 0 else Hs).length<=100/\1<=(if af%2=1 then Hs.eraseIdx 0 else Hs).length:=by
  split
  ·rw[YN,Wo];lia
  ·lia
 unfold joined at q;simp only at q;generalize (if af%2=1 then Hs.eraseIdx 0 else Hs)=T at *
 refine⟨_,rfl,_,_,rfl,rfl,_,rfl,?_⟩;apply via (Pm:=fun H3=>av H H3/\∃rt,PLs H3 t rt (if af>1/\L.length+T.length>3 then T.dropLast else T))
 ·intro rest;refine a9 (fun c=>?_) (fun c=>?_)
  ·refine⟨_,rfl,lo,_,rfl,.inl (SqL.of (s2 _ _ hL.1)),_,rfl,t,_,rfl,.inl (SqL.of hT2.1),_,_,rfl,rfl,_,_,rfl,rfl,_,rfl,?_⟩;rw[ai,ai];have c':=Zi c;refine a9 (fun d=>?_) (fun d=>?_)
   ·have d':=Zi d;refine⟨_,rfl,.inl ⟨rfl,_,SqL.of hT2.1⟩,t,_,_,rfl,rfl,hT2.1,by rw[ai];exact aR (by lia),?_⟩
    have hT3:PLs (upd H2 t (.lst (aj T.length rt).dropLast)) t rt T.dropLast:=by
     refine sX hT2 ?_ fun i hi=>⟨i,?_,rfl,?_⟩
     ·rw[X7,ai,nK (by lia),Y_]
     ·rw[Y_]at hi;lia
     ·rw[Y_]at hi;rw[X7];exact bE hi
    have s3:av H (upd H2 t (.lst (aj T.length rt).dropLast)):=av.updN s2 ht;generalize upd H2 t (.lst (aj T.length rt).dropLast)=H3 at *
    exact rest H3 ⟨s3,rt,by rw[if_pos ⟨c',by lia⟩];exact hT3⟩
   ·have d':¬_:=fun z=>d (Zo z);exact rest H2 ⟨s2,rt,by rw[if_neg (by lia)];exact hT2⟩
  ·have c':¬_:=fun z=>c (Zo z);exact eH (rest H2 ⟨s2,rt,by rw[if_neg (by lia)];exact hT2⟩)
 rintro H3 ⟨s3,rt3,hT3⟩;have hlen3:(if af>1/\L.length+T.length>3 then T.dropLast else T).length<=100:=by
  split
  ·rw[Y_];lia
  ·lia
 generalize (if af>1/\L.length+T.length>3 then T.dropLast else T)=T3 at *
 refine⟨_,rfl,_,rfl,t,_,rfl,SqL.of hT3.1,fun p hp=>?_⟩;have s4:=ao hp (.lst (aj T3.length rt3).reverse);have hP:PLs (upd H3 p (.lst (aj T3.length rt3).reverse)) p _ T3.reverse:=sQ hT3 s4 ah;have hL3:=hL.mono (s3.trans s4);refine⟨lo,p,_,_,rfl,rfl,hL3.1,hP.1,by rw[ai,ai,ZA];exact a_ (by lia),fun r hr'=>?_⟩
 exact q r _ _ ((s3.trans s4).trans (ao hr' _)) (kz hL3 hP (ao hr' _) ah)
theorem iW:aD ["cell","w","h","outer"] ["cell"] (au mI):=.mk'
theorem vC{n:Nat}(F:Fun K "_law_spiral" "_law_spiral" mI f fd):FnOk P w K mg base CX0 (n+1) f fd ["cell"] pH:=by
 refine F.ok iW (by rintro _ _ _ _⟨c,rfl,_⟩;rfl) fun C6 A outer s H vs Q E hr h=>?_
 obtain⟨c,rfl,q⟩:=h;refine⟨_,ax (ay (i:=1) iW.nd (ag aW ad (ag bP (pv 0) ad)))
  (ax (ay (i:=2) iW.nd (ag aW ad (ag bP (ag dZ (pv 0) ad) ad)))
  (ax (ay (i:=3) iW.nd (cN (dD (b7 (pa2 ad ad)) (dD (b7 (pa2 (pv 1) ad)) (pa4 (b7 (pa2 (pv 1) (pv 2))) (b7 (pa2 ad (pv 2))) (b7 (pa2 ad ad)) (b7 (pa2 (ag aS (pv 1) ad) ad)))))))
  (ak (aC (ag gG (pv 3) (cN (dD (b7 (pa2 (ag aS (pv 1) ad) ad)) (dD (b7 (pa2 ad ad)) (pa4 (b7 (pa2 ad (ag aS (pv 2) ad))) (b7 (pa2 (ag aS (pv 1) ad) (ag aS (pv 2) ad))) (b7 (pa2 (ag aS (pv 1) ad) ad)) (b7 (pa2 ad ad))))))))))),?_⟩
 refine⟨_,rfl,_,_,rfl,rfl,(show (0:Int)<3 by decide),_,_,rfl,rfl,?_⟩
 refine⟨_,rfl,_,_,rfl,rfl,⟨by decide,by decide⟩,_,_,rfl,rfl,(show (0:Int)<3 by decide),_,_,rfl,rfl,?_⟩
 refine⟨by show 2<=sizeLine;decide,fun t0 h0=>?_⟩
 have s0:=ao h0 (.tup [.int (0),.int (0)]);have p0:PtA (upd H t0 (.tup [.int (0),.int (0)])) t0 (0,0):=ah;generalize upd H t0 (.tup [.int (0),.int (0)])=H0 at *
 refine⟨_,rfl,by show 2<=sizeLine;decide,fun t1 h1=>?_⟩
 have s1:=ao h1 (.tup [.int ((5+c%3)),.int (0)]);have p1:PtA (upd H0 t1 (.tup [.int ((5+c%3)),.int (0)])) t1 ((5+c%3),0):=ah;generalize upd H0 t1 (.tup [.int ((5+c%3)),.int (0)])=H1 at *
 refine⟨_,rfl,_,rfl,by show 2<=sizeLine;decide,fun t2 h2=>?_⟩
 have s2:=ao h2 (.tup [.int ((5+c%3)),.int ((6+c/3%3))]);have p2:PtA (upd H1 t2 (.tup [.int ((5+c%3)),.int ((6+c/3%3))])) t2 ((5+c%3),(6+c/3%3)):=ah;generalize upd H1 t2 (.tup [.int ((5+c%3)),.int ((6+c/3%3))])=H2 at *
 refine⟨_,rfl,by show 2<=sizeLine;decide,fun t3 h3=>?_⟩
 have s3:=ao h3 (.tup [.int (0),.int ((6+c/3%3))]);have p3:PtA (upd H2 t3 (.tup [.int (0),.int ((6+c/3%3))])) t3 (0,(6+c/3%3)):=ah;generalize upd H2 t3 (.tup [.int (0),.int ((6+c/3%3))])=H3 at *
 refine⟨by show 2<=sizeLine;decide,fun t4 h4=>?_⟩
 have s4:=ao h4 (.tup [.int (0),.int (3)]);have p4:PtA (upd H3 t4 (.tup [.int (0),.int (3)])) t4 (0,3):=ah;generalize upd H3 t4 (.tup [.int (0),.int (3)])=H4 at *
 refine⟨_,rfl,_,_,rfl,rfl,by show 2<=sizeLine;decide,fun t5 h5=>?_⟩
 have s5:=ao h5 (.tup [.int ((5+c%3)-3),.int (3)]);have p5:PtA (upd H4 t5 (.tup [.int ((5+c%3)-3),.int (3)])) t5 ((5+c%3)-3,3):=ah;generalize upd H4 t5 (.tup [.int ((5+c%3)-3),.int (3)])=H5 at *
 refine⟨by show 6<=sizeLine;decide,fun o ho=>?_⟩
 have so:=ao ho (.lst [.ref t0,.ref t1,.ref t2,.ref t3,.ref t4,.ref t5]);have eo:(upd H5 o (.lst [.ref t0,.ref t1,.ref t2,.ref t3,.ref t4,.ref t5])) o=some (.lst [.ref t0,.ref t1,.ref t2,.ref t3,.ref t4,.ref t5]):=ah;generalize upd H5 o (.lst [.ref t0,.ref t1,.ref t2,.ref t3,.ref t4,.ref t5])=Ho at *
 refine⟨_,rfl,_,rfl,_,_,rfl,rfl,by show 2<=sizeLine;decide,fun t6 h6=>?_⟩
 have s6:=ao h6 (.tup [.int ((5+c%3)-3),.int (4)]);have p6:PtA (upd Ho t6 (.tup [.int ((5+c%3)-3),.int (4)])) t6 ((5+c%3)-3,4):=ah;generalize upd Ho t6 (.tup [.int ((5+c%3)-3),.int (4)])=H6 at *
 refine⟨by show 2<=sizeLine;decide,fun t7 h7=>?_⟩
 have s7:=ao h7 (.tup [.int (1),.int (4)]);have p7:PtA (upd H6 t7 (.tup [.int (1),.int (4)])) t7 (1,4):=ah;generalize upd H6 t7 (.tup [.int (1),.int (4)])=H7 at *
 refine⟨_,rfl,_,_,rfl,rfl,by show 2<=sizeLine;decide,fun t8 h8=>?_⟩
 have s8:=ao h8 (.tup [.int (1),.int ((6+c/3%3)-1)]);have p8:PtA (upd H7 t8 (.tup [.int (1),.int ((6+c/3%3)-1)])) t8 (1,(6+c/3%3)-1):=ah;generalize upd H7 t8 (.tup [.int (1),.int ((6+c/3%3)-1)])=H8 at *
 refine⟨_,rfl,_,_,rfl,rfl,_,rfl,_,_,rfl,rfl,by show 2<=sizeLine;decide,fun t9 h9=>?_⟩
 have s9:=ao h9 (.tup [.int ((5+c%3)-1),.int ((6+c/3%3)-1)]);have p9:PtA (upd H8 t9 (.tup [.int ((5+c%3)-1),.int ((6+c/3%3)-1)])) t9 ((5+c%3)-1,(6+c/3%3)-1):=ah;generalize upd H8 t9 (.tup [.int ((5+c%3)-1),.int ((6+c/3%3)-1)])=H9 at *
 refine⟨_,rfl,_,_,rfl,rfl,by show 2<=sizeLine;decide,fun t10 h10=>?_⟩
 have s10:=ao h10 (.tup [.int ((5+c%3)-1),.int (1)]);have p10:PtA (upd H9 t10 (.tup [.int ((5+c%3)-1),.int (1)])) t10 ((5+c%3)-1,1):=ah;generalize upd H9 t10 (.tup [.int ((5+c%3)-1),.int (1)])=H10 at *
 refine⟨by show 2<=sizeLine;decide,fun t11 DU=>?_⟩
 have s11:=ao DU (.tup [.int (0),.int (1)]);have p11:PtA (upd H10 t11 (.tup [.int (0),.int (1)])) t11 (0,1):=ah;generalize upd H10 t11 (.tup [.int (0),.int (1)])=H11 at *
 refine⟨by show 6<=sizeLine;decide,fun l hl=>?_⟩
 have sl:=ao hl (.lst [.ref t6,.ref t7,.ref t8,.ref t9,.ref t10,.ref t11]);have el:(upd H11 l (.lst [.ref t6,.ref t7,.ref t8,.ref t9,.ref t10,.ref t11])) l=some (.lst [.ref t6,.ref t7,.ref t8,.ref t9,.ref t10,.ref t11]):=ah;generalize upd H11 l (.lst [.ref t6,.ref t7,.ref t8,.ref t9,.ref t10,.ref t11])=Hl at *
 refine⟨o,l,_,_,rfl,rfl,sl _ _ (s11 _ _ (s10 _ _ (s9 _ _ (s8 _ _ (s7 _ _ (s6 _ _ eo)))))),el,by show 12<=sizeLine;decide,fun r hr'=>?_⟩
 have sr:=ao hr' (.lst ([.ref t0,.ref t1,.ref t2,.ref t3,.ref t4,.ref t5]++[.ref t6,.ref t7,.ref t8,.ref t9,.ref t10,.ref t11]));have z11:=sl.trans sr;have z10:=s11.trans z11;have z9:=s10.trans z10;have z8:=s9.trans z9;have z7:=s8.trans z8;have z6:=s7.trans z7;have zo:=s6.trans z6;have z5:=so.trans zo;have z4:=s5.trans z5;have z3:=s4.trans z4;have z2:=s3.trans z3;have z1:=s2.trans z2;have z0:=s1.trans z1;refine q r (fun i=>[t0,t1,t2,t3,t4,t5,t6,t7,t8,t9,t10,t11].getD i t0) _ (s0.trans z0) ⟨ah,fun i hi=>?_⟩
 match i,hi with
 |0,_=>exact z0 _ _ p0
 |1,_=>exact z1 _ _ p1
 |2,_=>exact z2 _ _ p2
 |3,_=>exact z3 _ _ p3
 |4,_=>exact z4 _ _ p4
 |5,_=>exact z5 _ _ p5
 |6,_=>exact z6 _ _ p6
 |7,_=>exact z7 _ _ p7
 |8,_=>exact z8 _ _ p8
 |9,_=>exact z9 _ _ p9
 |10,_=>exact z10 _ _ p10
 |11,_=>exact z11 _ _ p11
 |n+12,h=>exact absurd h (by show ¬n+12<12;lia)
end
end FD
end
section
namespace FD
open PySem L2 FF
noncomputable abbrev oJ:Stmt:=top 41
theorem vB{n s:Nat}{ts:Nat->Addr}(h:s<=n):bq (aj n ts) none (some (s:Int))=aj s ts:=by
 unfold bq;rw[HT.sIx_nat,HT.sIx_none,ai,Va,Nat.min_eq_left h,Nat.sub_zero];exact nK h
theorem xB{xs:List V}{v:V}(h:xs.getLast?=some v):atI xs (-1)=some v:=by
 have hn:xs≠[]:=fun e=>by rw[e]at h;cases h
 have hl:0<xs.length:=VN.mpr hn;unfold atI ixN;rw[if_neg (by lia),if_pos (by lia)]
 have e:((-1:Int)+(xs.length:Int)).toNat=xs.length-1:=by lia
 rw[e];rw[<-h,List.getLast?_eq_getElem?];rfl
noncomputable def we:Sp:=fun vs H Q _=>∃l rf cs c,vs=[.ref l,.int c]/\PLs H l rf cs/\1<=cs.length/\cs.length<=100/\∀r rg H',av H H'->PLs H' r rg (flat cs c)->Q (.ref r) H'
theorem Ah{x y g:Int}(h:g∈iC x y):g<20:=by
 unfold iC at h;obtain⟨k,hk,rfl⟩:=Yu.mp (ZG.mp h).1
 have:=Zt.mp hk
 lia
theorem vP{cs:List Pt}{c:Int}{a:Nat}(ha:(c%cs.length).toNat=a)(h:(iC ((at' cs a).1-(at' cs (pv_ cs.length a)).1) ((at' cs a).2-(at' cs (pv_ cs.length a)).2))=[]\/11<cs.length):flat cs c=cs:=by
 unfold flat;rw[ha];simp only;unfold pv_ at h;rcases h with h|h
 ·rw[h];rfl
 ·split
  ·rfl
  ·rw[if_pos h]
theorem w_{cs:List Pt}{c g:Int}{a:Nat}(ha:(c%cs.length).toNat=a)(h:(iC ((at' cs a).1-(at' cs (pv_ cs.length a)).1) ((at' cs a).2-(at' cs (pv_ cs.length a)).2)).getLast?=some g)(h2:¬11<cs.length):
  flat cs c=cs.take a++[((at' cs (pv_ cs.length a)).1+((at' cs a).1-(at' cs (pv_ cs.length a)).1)/g*(1+c/12%(g-1)),(at' cs (pv_ cs.length a)).2+((at' cs a).2-(at' cs (pv_ cs.length a)).2)/g*(1+c/12%(g-1)))]++cs.drop a:=by
 unfold flat;rw[ha];simp only;unfold pv_ at *
 rw[h];simp only;rw[if_neg h2]
theorem mD{x y:Int}{i:Nat}:(((Z4 (i+1)).map fun k=>((2+k:Nat):Int)).filter fun k=>x%k==0&&y%k==0)=(((Z4 i).map fun k=>((2+k:Nat):Int)).filter fun k=>x%k==0&&y%k==0)++if (x%(2+(i:Int))==0&&y%(2+(i:Int))==0)=true then [(2+(i:Int))] else []:=by
 rw[Xg,ZL,XZ];congr 1;show Ug _ [((2+i:Nat):Int)]=_;have e:((2+i:Nat):Int)=2+(i:Int):=by lia
 rw[e,XO]
 rfl
section
variable{P:Zy}{w:Zm}{K:Z1}{mg:Str->Option Value}{base:ZE}{f:Addr}{fd:ZD}
theorem BR:(["k","x","y"]:List Str).Nodup:=by decide +kernel
theorem g6:aD ["corners","cell","at","one","x","y","parts_v","k"] ["corners","cell"] (au oJ):=.mk'
theorem AD{n:Nat}(F:Fun K "_law_flat" "_law_flat" oJ f fd)(ml:mg "len" = none)(mr:mg "range" = none):FnOk P w K mg base CX0 (n+1) f fd ["corners","cell"] we:=by
 refine F.ok g6 (by rintro _ _ _ _⟨l,rf,cs,c,rfl,_⟩;rfl) fun C6 A outer s H vs Q E hr h=>?_
 obtain⟨l,rf,cs,c,rfl,hp,n1,n4,q⟩:=h;have hu:=hr.un;have hu2:A.units+3+5<cLine:=by have:A.units+3+16*n+200<cLine:=hu;lia
 refine⟨_,ax (ay (i:=2) g6.nd (ag bP (pv 1) (aE aM rfl ml ZF (pa1 (pv 0)))))
  (ax (ay (i:=3) g6.nd (am aF (pv 0) (ag aS (pv 2) ad)))
  (ax (ay (i:=4) g6.nd (ag aS (am aw (am aF (pv 0) (pv 2)) ad) (am aw (pv 3) ad)))
  (ax (ay (i:=5) g6.nd (ag aS (am aw (am aF (pv 0) (pv 2)) ad) (am aw (pv 3) ad)))
  (ax (c9 (i:=6) (N':=["k","x","y"]) (own:=1) (ae:=[4,5]) rfl (aT.of (sc:=au oJ) (N0:=["corners","cell","at","one","x","y","parts_v","k"]) rfl rfl (by decide +kernel)) g6.nd rfl (ZQ rfl) (nF rfl mr (pa2 ad ad))
   (fun C cl fp aa s₂ H₂=>aI (i:=0) BR rfl (ZQ rfl)) (fun C cl fp aa s₂ H₂=>gU (PW.pt (jt (aV dM (ag bP (pv 1) (pv 0)) ad) (j7 (aV dM (ag bP (pv 2) (pv 0)) ad))))) (fun C cl fp aa s₂ H₂=>pv 0))
  (ax (bc (PW.pt (e_ (aV (pQ hu2) (pv 6) (cN ie)) (fL (aV ik (aE aM rfl ml ZF (pa1 (pv 0))) ad)))) (ak (aC (pv 0))) aQ)
  (ax (ay (i:=7) g6.nd (ag aW ad (ag bP (ag dZ (pv 1) ad) (ag aS (am aF (pv 6) (oH lw ad)) ad))))
  (ak (aC (ag gG (ag gG (eO fI (pv 0) f9 (eV (pv 2))) (cN (pa1 (b7 (pa2 (ag aW (am aw (pv 3) ad) (ag fQ (ag dZ (pv 4) (am aF (pv 6) (oH lw ad))) (pv 7))) (ag aW (am aw (pv 3) ad) (ag fQ (ag dZ (pv 5) (am aF (pv 6) (oH lw ad))) (pv 7)))))))) (eO fI (pv 0) (eV (pv 2)) f9)))))))))),?_⟩
 have hn0:(0:Int)<(cs.length:Int):=by lia
 have hm1:=Int.emod_nonneg c (show (cs.length:Int)≠0 by lia)
 have hm2:=Int.emod_lt_of_pos c hn0;obtain⟨a,ha⟩:∃a:Nat,c%(cs.length:Int)=(a:Int):=⟨(c%(cs.length:Int)).toNat,by lia⟩
 have ha':(c%(cs.length:Int)).toNat=a:=by lia
 have han:a<cs.length:=by lia
 have hpv:=gv han;refine⟨_,rfl,_,rfl,l,_,rfl,.inl (SqL.of hp.1),_,_,rfl,rfl,by rw[ai];exact hn0,?_⟩
 rw[ai];have aP:atI (aj cs.length rf) (c%(cs.length:Int)-1)=some (.ref (rf (pv_ cs.length a))):=by rw[ha];exact gu han
 have aA:atI (aj cs.length rf) (c%(cs.length:Int))=some (.ref (rf a)):=by rw[ha];exact bS han
 refine⟨_,rfl,_,rfl,_,_,rfl,rfl,l,_,_,_,rfl,rfl,SqL.of hp.1,aP,?_⟩;have pA:=hp.2 a han;have pO:=hp.2 _ hpv;refine⟨_,rfl,_,rfl,l,_,_,_,rfl,rfl,SqL.of hp.1,aA,_,_,_,_,rfl,rfl,SqT.of pA,at0,_,rfl,_,_,_,_,rfl,rfl,SqT.of pO,at0,_,_,rfl,rfl,?_⟩;refine⟨_,rfl,_,rfl,l,_,_,_,rfl,rfl,SqL.of hp.1,aA,_,_,_,_,rfl,rfl,SqT.of pA,at1,_,rfl,_,_,_,_,rfl,rfl,SqT.of pO,at1,_,_,rfl,rfl,?_⟩;refine⟨_,_,rfl,by decide,18,fun i ys H'=>H'=H/\ys=((((Z4 i).map fun k=>((2+k:Nat):Int)).filter fun k=>((at' cs a).1-(at' cs (pv_ cs.length a)).1)%k==0&&((at' cs a).2-(at' cs (pv_ cs.length a)).2)%k==0)).map V.int,a_ (by decide),⟨rfl,rfl⟩,fun ys H' hW=>⟨by show 18<=18;decide,fun D hD=>?_⟩,fun i ys H' hi hW=>⟨hi,fun x H2 hy=>?_⟩⟩
 rotate_left
 ·obtain⟨rfl,rfl⟩:=hW;obtain⟨rfl,rfl⟩:=hy;refine⟨fP (by decide),?_⟩
  have i0:(0:Int)<2+(i:Int):=by lia
  refine⟨_,rfl,_,rfl,_,_,rfl,rfl,i0,rfl,_,rfl,?_⟩;rw[df];refine a9 (fun c1=>?_) (fun c1=>?_)
  ·refine⟨_,rfl,_,rfl,_,_,rfl,rfl,i0,rfl,_,rfl,?_⟩;rw[df];refine a9 (fun c2=>?_) (fun c2=>?_)
   ·refine⟨_,rfl,rfl,?_⟩;rw[mD,if_pos (by rw[c1,c2];rfl),ZL];rfl
   ·refine⟨rfl,?_⟩;rw[mD,if_neg (by rw[c1];exact c2),ZJ]
  ·refine eH ⟨rfl,?_⟩;rw[mD,if_neg (by rw[Yc.mpr c1];exact Zs),ZJ]
 obtain⟨rfl,rfl⟩:=hW;have fn:=vP (cs:=cs) (c:=c) ha';have fs:=fun g=>w_ (cs:=cs) (c:=c) (g:=g) (a:=a) ha';have dm:∀g,(iC ((at' cs a).1-(at' cs (pv_ cs.length a)).1) ((at' cs a).2-(at' cs (pv_ cs.length a)).2)).getLast?=some g->2<=g/\g<20:=by
  intro g hg
  have:=YS hg
  exact⟨(gl this).1,Ah this⟩
 have eD:(((Z4 18).map fun k=>((2+k:Nat):Int)).filter fun k=>((at' cs a).1-(at' cs (pv_ cs.length a)).1)%k==0&&((at' cs a).2-(at' cs (pv_ cs.length a)).2)%k==0)=iC ((at' cs a).1-(at' cs (pv_ cs.length a)).1) ((at' cs a).2-(at' cs (pv_ cs.length a)).2):=rfl;rw[eD];generalize iC ((at' cs a).1-(at' cs (pv_ cs.length a)).1) ((at' cs a).2-(at' cs (pv_ cs.length a)).2)=ds at *
 have s1:=ao hD (.lst (ds.map V.int));have hD1:(upd H' D (.lst (ds.map V.int))) D=some (.lst (ds.map V.int)):=ah;generalize upd H' D (.lst (ds.map V.int))=H1 at *
 refine⟨_,rfl,by show 0<=sizeLine;decide,fun p0 hp0=>?_⟩
 have s2:=ao hp0 (.lst []);have hP0:(upd H1 p0 (.lst [])) p0=some (.lst []):=ah;generalize upd H1 p0 (.lst [])=H2 at *
 have hD2:=s2 _ _ hD1;have sA:=s1.trans s2;cases hds:ds.getLast? with
 |none=>
  have e0:ds=[]:=by rwa [List.getLast?_eq_none_iff]at hds
  subst e0;refine⟨D,p0,_,_,rfl,rfl,SqL.of hD2,SqL.of hP0,.inr ⟨rfl,fun _=>true,(fun j x y hx _=>absurd hx (by simp)),_,rfl,?_⟩⟩
  refine dt (dt ⟨_,rfl,?_⟩);exact q l rf H2 sA (by rw[fn (.inl rfl)];exact hp.mono sA)
 |some g=>
  have e0:ds≠[]:=fun z=>by rw[z]at hds;cases hds
  have hl0:0<ds.length:=VN.mpr e0;refine⟨D,p0,_,_,rfl,rfl,SqL.of hD2,SqL.of hP0,.inl ⟨by rw[Z7];show ds.length≠0;lia,_,rfl,?_⟩⟩
  refine eH ?_;refine⟨_,rfl,l,_,rfl,.inl (SqL.of (sA _ _ hp.1)),_,_,rfl,rfl,_,rfl,?_⟩;rw[ai];refine a9 (fun c3=>?_) (fun c3=>?_)
  ·have c3':=Zi c3;exact⟨_,rfl,q l rf H2 sA (by rw[fn (.inr (by lia))];exact hp.mono sA)⟩
  have c3':¬_:=fun z=>c3 (Zo z);have g2:=dm g hds;have hpA:=hp.mono sA;have pO2:=hpA.2 _ hpv;have lst:atI (ds.map V.int) (-1)=some (.int g):=xB (by rw[List.getLast?_map,hds];rfl)
  have k1:=Int.emod_nonneg (c/12) (show g-1≠0 by lia)
  have k2:=Int.emod_lt_of_pos (c/12) (show 0<g-1 by lia)
  refine⟨_,rfl,_,_,rfl,rfl,⟨by decide,by decide⟩,_,rfl,_,rfl,D,_,_,_,rfl,rfl,SqL.of hD2,lst,_,_,rfl,rfl,_,_,rfl,rfl,(show (0:Int)<g-1 by lia),_,_,rfl,rfl,?_⟩
  refine⟨_,rfl,_,rfl,c%(cs.length:Int),rfl,l,_,rfl,SqL.of hpA.1,fun p1 hp1=>?_⟩;have s3:=ao hp1 (.lst (bq (aj cs.length rf) none (some (c%(cs.length:Int)))));have hP1:(upd H2 p1 (.lst (bq (aj cs.length rf) none (some (c%(cs.length:Int)))))) p1=some (.lst (bq (aj cs.length rf) none (some (c%(cs.length:Int))))):=ah;generalize upd H2 p1 (.lst (bq (aj cs.length rf) none (some (c%(cs.length:Int)))))=H3 at *
  rw[ha,vB (by lia)]at hP1
  have pO3:=s3 _ _ pO2;have hD3:=s3 _ _ hD2;refine⟨_,rfl,_,_,_,_,rfl,rfl,SqT.of pO3,at0,_,rfl,_,rfl,_,rfl,D,_,_,_,rfl,rfl,SqL.of hD3,lst,_,_,rfl,rfl,⟨by lia,by lia⟩,_,rfl,_,_,rfl,rfl,.inr ⟨by lia,by lia⟩,_,_,rfl,rfl,
   _,rfl,_,_,_,_,rfl,rfl,SqT.of pO3,at1,_,rfl,_,rfl,_,rfl,D,_,_,_,rfl,rfl,SqL.of hD3,lst,_,_,rfl,rfl,⟨by lia,by lia⟩,_,rfl,_,_,rfl,rfl,.inr ⟨by lia,by lia⟩,_,_,rfl,rfl,by show 2<=sizeLine;decide,fun t ht=>?_⟩
  have s4:=ao ht (.tup [.int ((at' cs (pv_ cs.length a)).1+((at' cs a).1-(at' cs (pv_ cs.length a)).1)/g*(1+c/12%(g-1))),.int ((at' cs (pv_ cs.length a)).2+((at' cs a).2-(at' cs (pv_ cs.length a)).2)/g*(1+c/12%(g-1)))]);have hT:PtA (upd H3 t (.tup [.int ((at' cs (pv_ cs.length a)).1+((at' cs a).1-(at' cs (pv_ cs.length a)).1)/g*(1+c/12%(g-1))),.int ((at' cs (pv_ cs.length a)).2+((at' cs a).2-(at' cs (pv_ cs.length a)).2)/g*(1+c/12%(g-1)))])) t ((at' cs (pv_ cs.length a)).1+((at' cs a).1-(at' cs (pv_ cs.length a)).1)/g*(1+c/12%(g-1)),(at' cs (pv_ cs.length a)).2+((at' cs a).2-(at' cs (pv_ cs.length a)).2)/g*(1+c/12%(g-1))):=ah;generalize upd H3 t (.tup [.int ((at' cs (pv_ cs.length a)).1+((at' cs a).1-(at' cs (pv_ cs.length a)).1)/g*(1+c/12%(g-1))),.int ((at' cs (pv_ cs.length a)).2+((at' cs a).2-(at' cs (pv_ cs.length a)).2)/g*(1+c/12%(g-1)))])=H4 at *
  refine⟨by show 1<=sizeLine;decide,fun p2 hp2=>?_⟩
  have s5:=ao hp2 (.lst [.ref t]);have hP2:(upd H4 p2 (.lst [.ref t])) p2=some (.lst [.ref t]):=ah;generalize upd H4 p2 (.lst [.ref t])=H5 at *
  have s45:=s4.trans s5;have lT:(cs.take a).length=a:=by rw[Za];lia
  have q1:PLs H5 p1 rf (cs.take a):=hpA.at_upd (s3.trans s45) (by rw[lT];exact s45 _ _ hP1) fun i hi=>⟨i,by lia,rfl,bE (by lia)⟩
  have q2:PLs H5 p2 (fun _=>t) [((at' cs (pv_ cs.length a)).1+((at' cs a).1-(at' cs (pv_ cs.length a)).1)/g*(1+c/12%(g-1)),(at' cs (pv_ cs.length a)).2+((at' cs a).2-(at' cs (pv_ cs.length a)).2)/g*(1+c/12%(g-1)))]:=⟨hP2,fun i hi=>by
   have:i=0:=by simp at hi;exact hi
   subst this;exact s5 _ _ hT⟩
  refine⟨p1,p2,_,_,rfl,rfl,q1.1,q2.1,by rw[ai,ai,lT];show a+1<=_;exact a_ (by lia),fun p3 hp3=>?_⟩
  have s6:=ao hp3 (.lst (aj (cs.take a).length rf++aj 1 (fun _=>t)));have q3:=kz q1 q2 s6 ah;have hp6:=hpA.mono ((s3.trans s45).trans s6);have sB:=(sA.trans (s3.trans s45)).trans s6;have e36:upd H5 p3 (.lst (aj (cs.take a).length rf++aj 1 (fun _=>t)))=upd H5 p3 (.lst (aj (cs.take a).length rf++aj [((at' cs (pv_ cs.length a)).1+((at' cs a).1-(at' cs (pv_ cs.length a)).1)/g*(1+c/12%(g-1)),(at' cs (pv_ cs.length a)).2+((at' cs a).2-(at' cs (pv_ cs.length a)).2)/g*(1+c/12%(g-1)))].length (fun _=>t))):=rfl;refine⟨_,rfl,_,rfl,c%(cs.length:Int),rfl,l,_,rfl,SqL.of hp6.1,fun p4 hp4=>?_⟩;have s7:=ao hp4 (.lst (bq (aj cs.length rf) (some (c%(cs.length:Int))) none));have q4:PLs (upd (upd H5 p3 (.lst (aj (cs.take a).length rf++aj 1 (fun _=>t)))) p4 (.lst (bq (aj cs.length rf) (some (c%(cs.length:Int))) none))) p4 (fun j=>rf (a+j)) (cs.drop a):=by
   refine hp6.at_upd s7 (by rw[ah,ha,kT,Zp]) fun i hi=>⟨a+i,?_,rfl,br⟩
   rw[Zp]at hi;lia
  have q5:=q3.mono s7;refine⟨p3,p4,_,_,rfl,rfl,q5.1,q4.1,?_,fun r hr'=>?_⟩
  ·rw[ai,ai,Z5,lT,Zp];show a+1+(cs.length-a)<=_;exact a_ (by lia)
  have s8:=ao hr' (.lst (aj (cs.take a++[((at' cs (pv_ cs.length a)).1+((at' cs a).1-(at' cs (pv_ cs.length a)).1)/g*(1+c/12%(g-1)),(at' cs (pv_ cs.length a)).2+((at' cs a).2-(at' cs (pv_ cs.length a)).2)/g*(1+c/12%(g-1)))]).length (fun i=>if i<(cs.take a).length then rf i else (fun _=>t) (i-(cs.take a).length))++aj (cs.drop a).length (fun j=>rf (a+j))))
  have q6:=kz q5 q4 s8 ah;rw[<-fs g hds (by lia)]at q6
  exact q r _ _ ((sB.trans s7).trans s8) q6
end
end FD
end
section
namespace FF
noncomputable def S(f:Nat->Int):Nat->Int
 |0=>0
 |n+1=>S f n+f n
theorem tw{f g:Nat->Int}:∀{n:Nat},(∀i,i<n->f i=g i)->S f n=S g n
 |0,_=>rfl
 |n+1,h=>by show S f n+f n=S g n+g n;rw[tw fun i hi=>h i (by lia),h n (by lia)]
theorem pV(f:Nat->Int):∀n:Nat,S f (n+1)=f 0+S (fun i=>f (i+1)) n
 |0=>by show 0+f 0=f 0+0;lia
 |n+1=>by
  show S f (n+1)+f (n+1)=f 0+(S (fun i=>f (i+1)) n+f (n+1));rw[pV f n];lia
end FF
end
section
namespace L2
open PySem PySem.Spec PyProof.Rows
section
variable{X:Cx}
theorem yt{j:Int}(h:Big j):j.natAbs.log2<9000:=by
 have hn:j.natAbs<2^1000:=by
  obtain⟨h1,h2⟩:=h;have e:((2:Int)^1000)=((2^1000:Nat):Int):=by norm_cast
  rw[e]at h1 h2;lia
 rcases Nat.eq_zero_or_pos j.natAbs with h0|hp
 ·rw[h0];decide
 ·have:=(Nat.log2_lt (by lia)).mpr hn
  lia
theorem x_:OpR X (binaryOp .FloorDiv) (rI (fun _ j=>0<j/\Big j) fun i j=>.int (i/j)):=opI fun i j _ _ _ _ _ hc q=>by
 have h1:(0:Int)<j:=hc.1;exact TC (by lia) (by rw[Int.fdiv_eq_ediv_of_nonneg i (by lia)];exact q) (.inl (PyProof.noPylong_of_log2 (yt hc.2)))
noncomputable def oF(t u:TS):TS:=fun D σ H=>t {D with nx:=fun σ' H'=>∃σ'',σ''=σ'/\u D σ'' H'} σ H
theorem aq{st:Stmt}{rest:List Stmt}{t u:TS}(h1:PS X st t)(h2:PSs X rest u):PSs X (st::rest) (oF t u):=by
 intro aa s σ H D I h;refine Wu (thn (h1 aa s σ H {D with nx:=fun σ' H'=>∃σ'',σ''=σ'/\u D σ'' H'} I h) fun f s1 q=>?_)
 cases f with
 |next=>
  obtain⟨σ',H',I',σ'',rfl,q⟩:=q;exact h2 aa s1 σ'' H' D I' q
 |ret v=>exact q
 |brk=>exact q
 |cont=>exact q
noncomputable def qAdd:R2:=fun x y H Q=>∃i j,x=.int i/\y=.int j/\Q (.int (i+j)) H
noncomputable def qSub:R2:=fun x y H Q=>∃i j,x=.int i/\y=.int j/\Q (.int (i-j)) H
noncomputable def qMul:R2:=fun x y H Q=>∃i j,x=.int i/\y=.int j/\oP i j/\Q (.int (i*j)) H
noncomputable def CD:R2:=fun x y H Q=>∃i j,x=.int i/\y=.int j/\B7 i j/\Q (.int (i*j)) H
noncomputable def A7:R2:=fun x y H Q=>∃i j,x=.int i/\y=.int j/\0<j/\Q (.int (i%j)) H
noncomputable def Cq:R2:=fun x y H Q=>∃i j,x=.int i/\y=.int j/\yF i j/\Q (.int (i/j)) H
noncomputable def BK:R2:=fun x y H Q=>∃i j,x=.int i/\y=.int j/\(0<j/\Big j)/\Q (.int (i/j)) H
noncomputable def qPow:R2:=fun x y H Q=>∃i j,x=.int i/\y=.int j/\Ce i j/\Q (.int (i^j.toNat)) H
noncomputable def qLt:R2:=fun x y H Q=>∃i j,x=.int i/\y=.int j/\Q (.bl (decide (i<j))) H
noncomputable def qGt:R2:=fun x y H Q=>∃i j,x=.int i/\y=.int j/\Q (.bl (decide (j<i))) H
noncomputable def qGe:R2:=fun x y H Q=>∃i j,x=.int i/\y=.int j/\Q (.bl (decide (j<=i))) H
theorem dX:OpR X (binaryOp .Add) qAdd:=aW
theorem ef:OpR X (binaryOp .Sub) qSub:=aS
theorem sS:OpR X (binaryOp .Mult) qMul:=fQ
theorem iU:OpR X (binaryOp .Mult) CD:=bQ
theorem dC:OpR X (binaryOp .Mod) A7:=bP
theorem dv:OpR X (binaryOp .FloorDiv) Cq:=dZ
theorem nU:OpR X (binaryOp .FloorDiv) BK:=x_
theorem zM:OpR X (binaryOp .Pow) qPow:=jk
theorem wK:OpR X (compareOp .Lt) qLt:=lM
theorem ia:OpR X (compareOp .Gt) qGt:=ik
theorem BL:OpR X (compareOp .GtE) qGe:=CS
end
end L2
namespace FD
open PySem L2 FF
noncomputable def Sm(B i:Int):Prop:=-B<=i/\i<=B
end FD
end
section
namespace L2
open PySem PySem.Spec PyProof.Rows
theorem j5{X:Cx}{e:Expr}{t t':TE}(h:PE X e t)(w:∀σ H Q,t' σ H Q->t σ H Q):PE X e t':=fun aa s σ H Q I q=>h aa s σ H Q I (w σ H Q q)
theorem rM{X:Cx}{e:Stmt}{t t':TS}(h:PS X e t)(w:∀D σ H,t' D σ H->t D σ H):PS X e t':=fun aa s σ H D I q=>h aa s σ H D I (w D σ H q)
theorem cZ.weak{X:Cx}{f:Value}{r r':List V->Hp->VK->Prop}(h:cZ X f r)(w:∀xs H Q,r' xs H Q->r xs H Q):cZ X f r':=fun aa s σ H xs us Q I v q=>h aa s σ H xs us Q I v (w xs H Q q)
end L2
namespace FD
open PySem PySem.Spec PyProof.Rows L2 FF
theorem jW{X:Cx}:cZ X (.type "list") (fun xs H Q=>∃r rf cs,xs=[.ref r]/\PLs H r rf cs/\∀h H',av H H'->PLs H' h rf cs->Q (.ref h) H'):=by
 refine cZ.weak jF ?_;rintro xs H Q ⟨r,rf,cs,rfl,hP,q⟩;exact⟨r,_,rfl,.inl (SqL.of hP.1),fun l hl=>q l _ (ao hl _) (qF hP (ao hl _) ah)⟩
noncomputable def Cw(i:Nat):TE:=fun σ H Q=>∃r rf cs,σ[i]?=some (some (.ref r))/\PLs H r rf cs/\∀l rg H',av H H'->PLs H' l rg cs.reverse->Q (.ref l) H'
theorem jw{K:Z1}{i:Nat}(σ:L2.St)(H:Hp)(Q:VK)(h:Cw i σ H Q):pZ K (bB (dO i) gL) σ H Q:=by
 obtain⟨r,rf,cs,e,hP,q⟩:=h;exact⟨_,e,r,_,rfl,SqL.of hP.1,fun l hl=>q l _ _ (ao hl _) (sQ hP (ao hl _) ah)⟩
noncomputable def tRot(i j:Nat):TE:=fun σ H Q=>∃r rf cs t,σ[i]?=some (some (.ref r))/\σ[j]?=some (some (.int ((t:Nat):Int)))/\PLs H r rf cs/\t<=cs.length/\cs.length<=400/\∀r3 rg H',av H H'->PLs H' r3 rg (cs.drop t++cs.take t)->Q (.ref r3) H'
theorem BE{X:Cx}{a b a' b':Expr}{p2 p3 pos pos' pos'':Pos}{i j:Nat}(h1:PE X a (dO i))(h2:PE X b (dO j))(h3:PE X a' (dO i))(h4:PE X b' (dO j)):
  PE X (.BinOp (.Subscript a (.Slice (some b) none none p2) pos) .Add (.Subscript a' (.Slice none (some b') none p3) pos') pos'') (tRot i j):=by
 refine j5 (ag gG (eO fI h1 (eV h2) f9) (eO fI h3 f9 (eV h4))) ?_;rintro σ H Q ⟨r,rf,cs,t,e1,e2,hP,ht,n4,q⟩;refine⟨_,e1,_,e2,_,rfl,r,_,rfl,SqL.of hP.1,fun p1 hp1=>?_⟩;have s5:=ao hp1 (.lst (bq (aj cs.length rf) (some ((t:Nat):Int)) none));have hQ1:(upd H p1 (.lst (bq (aj cs.length rf) (some ((t:Nat):Int)) none))) p1=some (.lst (bq (aj cs.length rf) (some ((t:Nat):Int)) none)):=ah;generalize upd H p1 (.lst (bq (aj cs.length rf) (some ((t:Nat):Int)) none))=H5 at *
 have hP5:=hP.mono s5;refine⟨_,e1,_,e2,_,rfl,r,_,rfl,SqL.of hP5.1,fun p2 hp2=>?_⟩;have s6:=ao hp2 (.lst (bq (aj cs.length rf) none (some ((t:Nat):Int))));have hQ2:(upd H5 p2 (.lst (bq (aj cs.length rf) none (some ((t:Nat):Int))))) p2=some (.lst (bq (aj cs.length rf) none (some ((t:Nat):Int)))):=ah;generalize upd H5 p2 (.lst (bq (aj cs.length rf) none (some ((t:Nat):Int))))=H6 at *
 rw[kT]at hQ1;rw[vB ht]at hQ2;have s56:=s5.trans s6;have lD:(cs.drop t).length=cs.length-t:=Zp;have lT:(cs.take t).length=t:=by rw[Za];lia
 have q1:PLs H6 p1 (fun j=>rf (t+j)) (cs.drop t):=hP.at_upd s56 (by rw[lD];exact s6 _ _ hQ1) fun i hi=>⟨t+i,by lia,rfl,br⟩
 have q2:PLs H6 p2 rf (cs.take t):=hP.at_upd s56 (by rw[lT];exact hQ2) fun i hi=>⟨i,by lia,rfl,bE (by lia)⟩
 refine⟨p1,p2,_,_,rfl,rfl,q1.1,q2.1,by rw[ai,ai,lT,lD];exact a_ (by lia),fun r3 hr3=>?_⟩
 have s7:=ao hr3 (.lst (aj (cs.drop t).length (fun j=>rf (t+j))++aj (cs.take t).length rf));exact q r3 _ _ (s56.trans s7) (kz q1 q2 s7 ah)
noncomputable def uu(t:TA):TE:=fun σ H Q=>t σ H fun xs H2=>∃i j,xs=[.int i,.int j]/\∀t H',av H2 H'->PtA H' t (i,j)->Q (.ref t) H'
theorem fO{X:Cx}{es:List Expr}{t:TA}{x1}{pos:Pos}(h:PA X es t):PE X (.Tuple es x1 pos) (uu t):=by
 intro aa s σ H Q I hq;refine Wb (thn (h pos aa s σ H _ I hq) fun us s1 zz=>?_);obtain⟨xs,H1,I1,r,i,j,e,q⟩:=zz;subst e;have z:([V.int i,V.int j]:List V).length<=sizeLine:=by show 2<=sizeLine;decide
 refine⟨by rw[<-r.length];exact z,?_⟩
 have hn:H1 s1.heap.objs.size=none:=I1.hok.fresh (Nat.le_refl _);refine⟨.ref s1.heap.objs.size,upd H1 s1.heap.objs.size (.tup [.int i,.int j]),I1.laid (t':=s1.toks) (fun b o e=>Z_ _ e) (Nat.le_refl _) ?_,rfl,q _ _ (ao hn _) ah⟩;exact⟨z,us,r,⟨_,Zl _ rfl,rfl,_,rfl⟩⟩
noncomputable def Bk(i own:Nat)(ae:List Nat)(g:TG)(te:TE):TE:=fun σ H Q=>∃(a:Addr) (rf:Nat->Addr) (cs:List Pt) (gf:Pt->Pt),σ[i]?=some (some (.ref a))/\PLs H a rf cs/\cs.length<=400/\
 (∀k,k<cs.length->∀H',av H H'->∀Q':VK,(∀t H4,av H' H4->PtA H4 t (gf (at' cs k))->Q' (.ref t) H4)->g (.ref (rf k)) (compσ own ae σ) H' fun σ2 H2=>dr own ae σ σ2/\te σ2 H2 Q')/\
 ∀D rg H',av H H'->PLs H' D rg (cs.map gf)->Q (.ref D) H'
theorem yh{K:Z1}{i own:Nat}{ae:List Nat}{g:TG}{te:TE}(gm:∀x σ H Q Q',(∀s h,Q s h->Q' s h)->g x σ H Q->g x σ H Q')(σ:L2.St)(H:Hp)(Q:VK)(h:Bk i own ae g te σ H Q):kf (oM K (dO i)) own ae g (fun _ H Q=>Q true H) te σ H Q:=by
 obtain⟨a,rf,cs,gf,e,hP,n4,el,q⟩:=h;refine⟨_,e,a,rfl,⟨_,SqL.of hP.1⟩,cs.length,fun i ys H'=>av H H'/\∃ts,ys=aj i ts/\∀j,j<i->PtA H' (ts j) (gf (at' cs j)),a_ (by lia),⟨av.refl _,fun _=>a,rfl,fun j hj=>absurd hj (by lia)⟩,
  fun ys H' hW=>⟨⟨aj cs.length rf,SqL.of (hW.1 _ _ hP.1),by rw[ai];exact Nat.le_refl _⟩,fun D hD=>?_⟩,fun i ys H' hi hW=>⟨⟨aj cs.length rf,_,SqL.of (hW.1 _ _ hP.1),aR hi⟩,fun x H3 hy=>?_⟩⟩
 ·obtain⟨sW,ts,rfl,hts⟩:=hW;have s9:=ao hD (.lst (aj cs.length ts));refine q D ts _ (sW.trans s9) ⟨by rw[ah,Z7],fun j hj=>?_⟩
  rw[Z7]at hj;rw[dS hj];exact s9 _ _ (hts j hj)
 ·obtain⟨sW,ts,rfl,hts⟩:=hW;obtain⟨rfl,hy⟩:=hy;obtain⟨_,rfl⟩:=bU (hy _ (SqL.of (sW _ _ hP.1)));refine gm _ _ _ _ _ (fun σ2 H2 z=>⟨z.1,dt z.2⟩) (el i hi _ sW (fun v H4=>av H H4/\∃ts',aj i ts++[v]=aj (i+1) ts'/\∀j,j<i+1->PtA H4 (ts' j) (gf (at' cs j))) fun t H4 s4 hp4=>?_);refine⟨sW.trans s4,fun j=>if j<i then ts j else t,gE,fun j hj=>?_⟩
  by_cases e:j<i
  ·dsimp only;rw[if_pos e];exact s4 _ _ (hts j e)
  ·have ej:j=i:=by lia
   subst ej;dsimp only;rw[if_neg e];exact hp4
theorem tj{i:Nat}(x:V)(σ:L2.St)(H:Hp)(Q Q':L2.St->Hp->Prop)(w:∀s h,Q s h->Q' s h)(h:bW i x σ H Q):bW i x σ H Q':=w _ _ h
theorem xc{K:Z1}{n i j:Nat}(x:V)(σ:L2.St)(H:Hp)(Q Q':L2.St->Hp->Prop)(w:∀s h,Q s h->Q' s h)(h:uo K n (lJ (bW i) (lJ (bW j) xX)) x σ H Q):uo K n (lJ (bW i) (lJ (bW j) xX)) x σ H Q':=by
 obtain⟨a,xs,e,s,l,v,r,e1,v2,r2,e2,e3,q⟩:=h;exact⟨a,xs,e,s,l,v,r,e1,v2,r2,e2,e3,w _ _ q⟩
theorem rK{K:Z1}{i k own:Nat}{ae:List Nat}{g:TG}{te:TE}(gm:∀x σ H Q Q',(∀s h,Q s h->Q' s h)->g x σ H Q->g x σ H Q')(D:iE)(σ:L2.St)(H:Hp)(h:gc (Bk i own ae g te) (bW k) D σ H):gc (kf (oM K (dO i)) own ae g (fun _ H Q=>Q true H) te) (bW k) D σ H:=yh gm _ _ _ h
end FD
end
section
namespace FF
noncomputable def Nr(p:Pt):Prop:=(-100<=p.1/\p.1<=100)/\-100<=p.2/\p.2<=100
theorem cO:∀{cs:List Pt} {i:Nat},i<cs.length->at' cs i∈cs
 |c::r,0,_=>Zq
 |c::r,i+1,h=>Z8 _ (cO (by simpa using h))
theorem jV(c:Int):∀k:Nat,0<=xAt c k/\xAt c k<=3*k
 |0=>⟨Int.le_refl 0,Int.le_refl 0⟩
 |k+1=>by
  have:=jV c k
  have:=cq c k (show (0:Int)<3 by decide)
  unfold xAt;lia
theorem mh{m:Nat}{x l:Nat->Int}(hm:m<=6)(hx:∀k,k<m->0<=x k/\x k<=3*k)(hl:∀k,-100<=l k/\l k<=100):∀p∈loL m x l,Nr p:=by
 intro p hp;unfold loL at hp;obtain⟨k,hk,rfl⟩:=Yu.mp hp;have hk:=Zt.mp hk
 have:=hx k hk
 exact⟨by simp only;lia,hl k⟩
theorem nC{L H:List Pt}{t:Int}(hL:∀p∈L,Nr p)(hH:∀p∈H,Nr p):∀p∈joined L H t,Nr p:=by
 intro p hp;unfold joined at hp;simp only at hp;rcases ZH.mp hp with h|h
 ·exact hL p h
 ·refine hH p ?_;rw[Wn]at h;have e1:∀{A:List Pt} {q},q∈A.dropLast->q∈A:=fun z=>List.dropLast_subset _ z;have e2:∀{q},q∈(if t%2=1 then H.eraseIdx 0 else H)->q∈H:=by
   intro q hq
   split at hq
   ·exact List.mem_of_mem_eraseIdx hq
   ·exact hq
  generalize (if t%2=1 then H.eraseIdx 0 else H)=T at *
  split at h
  ·exact e2 (e1 h)
  ·exact e2 h
theorem vh{c:Int}:∀p∈spiral c,Nr p:=by
 have h1:=Int.emod_nonneg c (show (3:Int)≠0 by decide)
 have h2:=Int.emod_lt_of_pos c (show (0:Int)<3 by decide)
 have h3:=Int.emod_nonneg (c/3) (show (3:Int)≠0 by decide)
 have h4:=Int.emod_lt_of_pos (c/3) (show (0:Int)<3 by decide)
 unfold spiral;simp only;generalize c%3=a at *
 generalize c/3%3=b at *
 intro p hp;simp only[Xn,Y6,Zx,Zr,or_false]at hp;unfold Nr;rcases hp with rfl|rfl|rfl|rfl|rfl|rfl|rfl|rfl|rfl|rfl|rfl|rfl<;>simp only<;>lia
theorem o4{p q c u v b:Int}(hu:0<u)(hv:0<v)(e:u*p+v*q=(u+v)*c)(h1:-b<=p/\p<=b)(h2:-b<=q/\q<=b):-b<=c/\c<=b:=by
 have e2:(u+v)*c=u*c+v*c:=Int.add_mul _ _ _;constructor
 ·apply Zz;intro h;have a1:u*c<u*p:=Int.mul_lt_mul_of_pos_left (by lia) hu
  have a2:v*c<v*q:=Int.mul_lt_mul_of_pos_left (by lia) hv
  lia
 ·apply Zz;intro h;have a1:u*p<u*c:=Int.mul_lt_mul_of_pos_left (by lia) hu
  have a2:v*q<v*c:=Int.mul_lt_mul_of_pos_left (by lia) hv
  lia
theorem vN{p q c:Pt}(h:bg p q c)(hp:Nr p)(hq:Nr q):Nr c:=by
 obtain⟨u,v,hu,hv,e1,e2⟩:=h;exact⟨o4 hu hv e1 hp.1 hq.1,o4 hu hv e2 hp.2 hq.2⟩
theorem rJ{cs:List Pt}{c:Int}(h:∀p∈cs,Nr p)(h1:1<=cs.length):∀p∈flat cs c,Nr p:=by
 intro p hp;unfold flat at hp;simp only at hp;have t1:=Int.emod_nonneg c (show (cs.length:Int)≠0 by lia)
 have t2:=Int.emod_lt_of_pos c (show (0:Int)<cs.length by lia)
 have ht:(c%(cs.length:Int)).toNat<cs.length:=by lia
 generalize (c%(cs.length:Int)).toNat=t at *
 split at hp
 ·exact h p hp
 ·rename_i g hg
  split at hp
  ·exact h p hp
  ·have hm:=gl (YS hg);have k1:=Int.emod_nonneg (c/12) (show g-1≠0 by lia)
   have k2:=Int.emod_lt_of_pos (c/12) (show 0<g-1 by lia)
   have st:=fj hm.1 hm.2.1 hm.2.2 (k:=1+c/12%(g-1)) (by lia) (by lia)
   rcases ZH.mp hp with q|q
   ·rcases ZH.mp q with q|q
    ·exact h p (VA q)
    ·rw[Zg]at q;rw[q];exact vN st (h _ (cO (by split<;>lia))) (h _ (cO ht))
   ·exact h p (VB q)
theorem ui(ns:List Int)(f:Nat):∀p∈bK ns f,Nr p:=by
 have hm:2<=bA (cell ns f)/\bA (cell ns f)<=6:=by unfold bA;lia
 have b1:∀k,-100<=b_ (cell ns (f+1)) k/\b_ (cell ns (f+1)) k<=4:=fun k=>by
  have:=cq (cell ns (f+1)) k (show (0:Int)<9 by decide)
  unfold b_;lia
 have b2:∀k,-100<=bp (cell ns (f+1)) (cell ns (f+2)) k/\bp (cell ns (f+1)) (cell ns (f+2)) k<=100:=fun k=>by
  have:=b1 k
  have:=cq (cell ns (f+2)) k (show (0:Int)<5 by decide)
  unfold bp;lia
 have g0:∀p∈joined (bu ns f) (bj ns f) (cell ns f/5%4),Nr p:=
  nC (mh hm.2 (fun k _=>jV _ k) fun k=>by have:=b1 k;lia) (mh hm.2 (fun k _=>jV _ k) b2)
 have G0:Good (joined (bu ns f) (bj ns f) (cell ns f/5%4)):=by
  refine iG hm.1 hm.2 (fun i j h _=>iL _ h) (fun i _=>?_)
  have:=cq (cell ns (f+2)) i (show (0:Int)<5 by decide)
  unfold bp;lia
 unfold bK;simp only;generalize joined (bu ns f) (bj ns f) (cell ns f/5%4)=c0 at *
 generalize cell ns f/20=c;have g1:∀p∈bL c0 c (cell ns (f+1)),Nr p:=by unfold bL;split;exact vh;exact g0
 have G1:Good (bL c0 c (cell ns (f+1))):=by unfold bL;split;exact iD _;exact G0
 generalize bL c0 c (cell ns (f+1))=c1 at *
 have g2:∀p∈cY c1 c (cell ns (f+2)),Nr p:=by unfold cY;split;exact rJ g1 (by have:=G1.fe.lo;lia);exact g1
 generalize cY c1 c (cell ns (f+2))=c2 at *
 have g3:∀p∈e7 c2 c,Nr p:=by
  intro p hp;unfold e7 at hp;rcases ZH.mp hp with q|q
  ·exact g2 p (VB q)
  ·exact g2 p (VA q)
 generalize e7 c2 c=c3 at *
 have g4:∀p∈dz c3 c,Nr p:=by
  intro p hp;unfold dz at hp
  split at hp
  ·exact g3 p (Wn.mp hp)
  ·exact g3 p hp
 generalize dz c3 c=c4 at *
 intro p hp;unfold gO at hp
 split at hp
 ·obtain⟨z,hz,rfl⟩:=Yu.mp hp;exact⟨(g4 z hz).2,(g4 z hz).1⟩
 ·exact g4 p hp
noncomputable def st(p q:Pt):Int:=(p.1-q.1)*(p.2+q.2)
noncomputable def pvN(n i:Nat):Nat:=if i=0 then n-1 else i-1
noncomputable def m5(cs:List Pt):Nat->Int
 |0=>0
 |k+1=>m5 cs k+st (at' cs (pvN cs.length k)) (at' cs k)
theorem zC(p q:Pt):st p q=cr p q+p.1*p.2-q.1*q.2:=by unfold st cr;grind
noncomputable def i8(cs:List Pt):Nat->Int
 |0=>0
 |k+1=>i8 cs k+cr (at' cs k) (at' cs (k+1))
theorem rP(cs:List Pt):∀k,m5 cs (k+1)=cr (at' cs (cs.length-1)) (at' cs 0)+i8 cs k+(at' cs (cs.length-1)).1*(at' cs (cs.length-1)).2-(at' cs k).1*(at' cs k).2
 |0=>by
  show 0+st (at' cs (pvN cs.length 0)) (at' cs 0)=_;rw[zC];show 0+(cr (at' cs (cs.length-1)) (at' cs 0)+_-_)=cr (at' cs (cs.length-1)) (at' cs 0)+0+_-_
  have:pvN cs.length 0=cs.length-1:=rfl
  rw[this];lia
 |k+1=>by
  show m5 cs (k+1)+st (at' cs (pvN cs.length (k+1))) (at' cs (k+1))=_;rw[rP cs k,zC]
  have:pvN cs.length (k+1)=k:=rfl
  rw[this];show _=cr (at' cs (cs.length-1)) (at' cs 0)+(i8 cs k+cr (at' cs k) (at' cs (k+1)))+_-_;lia
theorem nO(a:Pt)(r:List Pt):∀k,i8 (a::r) (k+1)=cr a (at' r 0)+i8 r k
 |0=>by show 0+cr a (at' r 0)=cr a (at' r 0)+0;lia
 |k+1=>by
  show i8 (a::r) (k+1)+cr (at' r k) (at' r (k+1))=cr a (at' r 0)+(i8 r k+cr (at' r k) (at' r (k+1)));rw[nO a r k];lia
theorem rX:∀(r:List Pt) (p f:Pt),pa p r f=i8 (p::r) r.length+cr (at' (p::r) r.length) f
 | [],p,f=>by show cr p f=0+cr p f;lia
 |x::r,p,f=>by
  show cr p x+pa x r f=i8 (p::x::r) (r.length+1)+cr (at' (x::r) r.length) f;rw[rX r x f,nO];show _=cr p x+_+_;lia
theorem w5:∀{cs:List Pt},1<=cs.length->m5 cs cs.length=area cs
 |c::r,_=>by
  have:=rP (c::r) r.length
  show m5 (c::r) (r.length+1)=pa c r c;rw[this,rX];have e:(c::r).length-1=r.length:=rfl;rw[e];show cr (at' (c::r) r.length) c+_+_-_=_;lia
end FF
end
section
namespace FF
structure LF(cs:List Pt):Prop where
 lo:3<=cs.length
 hi:cs.length<=12
structure LG(cs:List Pt):Prop where
 fe:LF cs
theorem oj(ns:List Int)(f:Nat):LG (joined (bu ns f) (bj ns f) (cell ns f/5%4)):=by
 have hm:2<=bA (cell ns f)/\bA (cell ns f)<=6:=by unfold bA;omega
 have lL:(bu ns f).length=bA (cell ns f):=aK;have lH:(bj ns f).length=bA (cell ns f):=aK;generalize bu ns f=L at *
 generalize bj ns f=H at *
 generalize cell ns f/5%4=t;have key:3<=(joined L H t).length/\(joined L H t).length<=12:=by
  unfold joined;simp only[Z5,ZA];have e:(if t%2=1 then H.eraseIdx 0 else H).length+1 ≥ H.length/\(if t%2=1 then H.eraseIdx 0 else H).length<=H.length:=by
   split
   ·rw[YN,Wo];omega
   ·omega
  generalize (if t%2=1 then H.eraseIdx 0 else H)=T at *
  split
  ·rw[Y_];omega
  ·omega
 exact⟨⟨key.1,key.2⟩⟩
theorem vV{cs:List Pt}{c d:Int}(G:LG cs):LG (bL cs c d):=by
 unfold bL
 split
 ·exact⟨⟨by show 3<=12;decide,by show 12<=12;decide⟩⟩
 ·exact G
theorem wD{cs:List Pt}{c d:Int}(G:LG cs):LG (cY cs c d):=by
 unfold cY
 split
 ·unfold flat;simp only;have lo:=G.fe.lo;have hi:=G.fe.hi
  split
  ·exact G
  ·split
   ·exact G
   ·refine⟨⟨?_,?_⟩⟩<;>simp only[Z5,Za,Zp,Zd,YV]<;>omega
 ·exact G
theorem LG.turn{cs:List Pt}{c:Int}(G:LG cs):LG (e7 cs c):=by
 have lo:=G.fe.lo;have hi:=G.fe.hi;unfold e7;refine⟨⟨?_,?_⟩⟩<;>simp only[Z5,Za,Zp]<;>omega
theorem wB{cs:List Pt}{c:Int}(G:LG cs):LG (dz cs c):=by
 unfold dz
 split
 ·exact⟨⟨by rw[ZA];exact G.fe.lo,by rw[ZA];exact G.fe.hi⟩⟩
 ·exact G
end FF
end
section
namespace FD
open PySem L2 FF
noncomputable abbrev i7:Stmt:=top 42
theorem xv{G:Prop}{K Pm:Addr->Hp->Prop}(main:(∀r H1,Pm r H1->K r H1)->G)(rest:∀r H1,Pm r H1->K r H1):G:=main rest
noncomputable def og(K:Z1):Sp:=fun vs H Q _=>∃a ns f,vs=[.ref a,.int ((f:Nat):Int)]/\Scr K H a ns/\∀r rf H',av H H'->PLs H' r rf (bK ns f)->Q (.ref r) H'
section
variable{P:Zy}{w:Zm}{K:Z1}{mg:Str->Option Value}{base:ZE}{f:Addr}{fd:ZD}
theorem zl:(["x","y"]:List Str).Nodup:=by decide +kernel
theorem c_:aD ["script","first","rows","corners","cell","turn_v"] ["script","first"] (au i7):=.mk'
theorem rz(F:Fun K "_law_fence_by" "_law_fence_by" i7 f fd)(cC:Cal P w K mg base 1 "_law_cell_at" ["script","k"] (g8 K))(cR:Cal P w K mg base 2 "_law_rows_by" ["script","first"] (u5 K))(cJ:Cal P w K mg base 1 "_law_joined" ["lows","highs","tips"] pz)
  (cS:Cal P w K mg base 1 "_law_spiral" ["cell"] pH)(cF:Cal P w K mg base 1 "_law_flat" ["corners","cell"] we)(ml:mg "len" = none)(mls:mg "list" = none)(El:mg "reversed" = none):FnOk P w K mg base CX0 3 f fd ["script","first"] (og K):=by
 refine F.ok c_ (by rintro _ _ _ _⟨a,ns,m,rfl,_⟩;rfl) fun C6 A outer s H vs Q E hr h=>?_
 obtain⟨a,ns,m,rfl,hS,q⟩:=h;refine⟨_,aq (ay (i:=2) c_.nd (aB cR hr (pa2 (pv 0) (pv 1))))
  (aq (ay (i:=3) c_.nd (aB cJ hr (pa3 (am aF (pv 2) ad) (am aF (pv 2) ad) (am aF (pv 2) ad))))
  (aq (ay (i:=4) c_.nd (ag dv (aB cC hr (pa2 (pv 0) (pv 1))) ad))
  (aq (bc (aV dM (ag dC (ag dv (pv 4) ad) ad) ad) (ak (ay (i:=3) c_.nd (aB cS hr (pa1 (aB cC hr (pa2 (pv 0) (ag dX (pv 1) ad))))))) aQ)
  (aq (bc (aV dM (ag dC (ag dv (pv 4) ad) ad) ad) (ak (ay (i:=3) c_.nd (aB cF hr (pa2 (pv 3) (aB cC hr (pa2 (pv 0) (ag dX (pv 1) ad))))))) aQ)
  (aq (ay (i:=5) c_.nd (ag dC (pv 4) (aE aM rfl ml ZF (pa1 (pv 3)))))
  (aq (ay (i:=3) c_.nd (BE (pv 3) (pv 5) (pv 3) (pv 5)))
  (aq (bc (aV dM (ag dC (ag dv (pv 4) ad) ad) ad) (ak (ay (i:=3) c_.nd (j5 (fN rfl rfl mls rfl El (pa1 (pv 3))) jw))) aQ)
  (aq (bc (aV dM (ag dC (ag dv (pv 4) ad) ad) ad) (ak (rM (c9 (i:=3) (N':=["x","y"]) (own:=2) (ae:=[]) rfl (aT.of (sc:=au i7) (N0:=["script","first","rows","corners","cell","turn_v"]) rfl rfl (by decide +kernel)) c_.nd rfl (ZQ rfl) (b9 (pv 3))
   (fun C cl fp aa s₂ H₂=>kw (n:=2) rfl (bD (aI (i:=0) zl rfl (ZQ rfl)) (bD (aI (i:=1) zl rfl (ZQ rfl)) gY))) (fun C cl fp aa s₂ H₂=>eZ) (fun C cl fp aa s₂ H₂=>fO (pa2 (pv 1) (pv 0)))) (rK xc))) aQ)
  (ak (aC (pv 3))))))))))),?_⟩
 have e1:∀j:Nat,((m:Nat):Int)+((j:Nat):Int)=((m+j:Nat):Int):=fun j=>by lia
 have hm:2<=bA (cell ns m)/\bA (cell ns m)<=6:=by unfold bA;lia
 have lL:(bu ns m).length=bA (cell ns m):=aK;have lH:(bj ns m).length=bA (cell ns m):=aK;unfold bK at q;simp only at q;have G0:=oj ns m;refine⟨_,rfl,_,rfl,a,ns,m,rfl,hS,fun rw lo hi rl rh H1 s1 hrw hL hR=>⟨[_,_,_,_,_,_],rfl,?_⟩⟩;refine⟨_,rfl,rw,_,_,_,rfl,rfl,SqL.of hrw,rfl,_,rfl,rw,_,_,_,rfl,rfl,SqL.of hrw,rfl,_,rfl,rw,_,_,_,rfl,rfl,SqL.of hrw,rfl,lo,hi,_,rl,rh,_,_,rfl,hL,hR,by rw[lL];exact hm.1,by lia,by rw[lH];exact hm.1,by lia,fun r0 rf0 H2 s2 hP0=>⟨[_,_,_,_,_,_],rfl,?_⟩⟩
 have sA:=s1.trans s2;clear hL hR hrw s1 s2 lL lH hm;generalize joined (bu ns m) (bj ns m) (cell ns m/5%4)=c0 at *
 refine⟨_,rfl,_,rfl,a,ns,m,rfl,hS.mono sA,_,_,rfl,rfl,⟨by decide,by decide⟩,[_,_,_,_,_,_],rfl,?_⟩
 refine⟨_,rfl,_,_,rfl,rfl,⟨by decide,by decide⟩,_,_,rfl,rfl,(show (0:Int)<5 by decide),rfl,_,rfl,?_⟩
 rw[df];apply xv (Pm:=fun r H3=>av H H3/\∃rf,PLs H3 r rf (bL c0 (cell ns m/20) (cell ns (m+1))))
 ·intro rest;refine a9 (fun c=>?_) (fun c=>?_)
  ·have c':cell ns m/20/48%5=1:=by simpa using c
   refine⟨_,rfl,_,rfl,_,_,rfl,rfl,a,ns,m+1,by rw[<-e1 1];rfl,hS.mono sA,_,rfl,fun r1 rf1 H3 s3 hP1=>?_⟩
   exact rest r1 H3 ⟨sA.trans s3,rf1,by unfold bL;rw[if_pos c'];exact hP1⟩
  ·have c':¬cell ns m/20/48%5=1:=by simpa using c
   exact rest r0 H2 ⟨sA,rf0,by unfold bL;rw[if_neg c'];exact hP0⟩
 rintro r1 H3 ⟨s3,rf1,hP1⟩;have G1:LG (bL c0 (cell ns m/20) (cell ns (m+1))):=vV G0;clear hP0 sA G0;generalize bL c0 (cell ns m/20) (cell ns (m+1))=c1 at *
 refine⟨[_,_,_,_,_,_],rfl,?_⟩;refine⟨_,rfl,_,_,rfl,rfl,⟨by decide,by decide⟩,_,_,rfl,rfl,(show (0:Int)<2 by decide),rfl,_,rfl,?_⟩
 rw[df];apply xv (Pm:=fun r H3=>av H H3/\∃rf,PLs H3 r rf (cY c1 (cell ns m/20) (cell ns (m+2))))
 ·intro rest;refine a9 (fun c=>?_) (fun c=>?_)
  ·have c':cell ns m/20/240%2=1:=by simpa using c
   refine⟨_,rfl,_,rfl,_,rfl,_,_,rfl,rfl,a,ns,m+2,by rw[<-e1 2];rfl,hS.mono s3,r1,rf1,c1,_,rfl,hP1,by have:=G1.fe.lo;lia,by have:=G1.fe.hi;lia,fun r2 rf2 H4 s4 hP2=>?_⟩
   exact rest r2 H4 ⟨s3.trans s4,rf2,by unfold cY;rw[if_pos c'];exact hP2⟩
  ·have c':¬cell ns m/20/240%2=1:=by simpa using c
   exact rest r1 H3 ⟨s3,rf1,by unfold cY;rw[if_neg c'];exact hP1⟩
 rintro r2 H4 ⟨s4,rf2,hP2⟩;have G2:LG (cY c1 (cell ns m/20) (cell ns (m+2))):=wD G1;clear hP1 s3 G1;generalize cY c1 (cell ns m/20) (cell ns (m+2))=c2 at *
 have l3:=G2.fe.lo;have l12:=G2.fe.hi;have hn0:(0:Int)<(c2.length:Int):=by lia
 have hm1:=Int.emod_nonneg (cell ns m/20) (show (c2.length:Int)≠0 by lia)
 have hm2:=Int.emod_lt_of_pos (cell ns m/20) hn0;obtain⟨t,ht⟩:∃t:Nat,cell ns m/20%(c2.length:Int)=(t:Int):=⟨(cell ns m/20%(c2.length:Int)).toNat,by lia⟩
 have ht':(cell ns m/20%(c2.length:Int)).toNat=t:=by lia
 refine⟨[_,_,_,_,_,_],rfl,?_⟩;refine⟨_,rfl,_,rfl,r2,_,rfl,.inl (SqL.of hP2.1),_,_,rfl,rfl,by rw[ai];exact hn0,[_,_,_,_,_,_],rfl,?_⟩
 rw[ai,ht];refine⟨r2,rf2,c2,t,rfl,rfl,hP2,by lia,by lia,fun r3 rf3 H7 s7 q3=>⟨[_,_,_,_,_,_],rfl,?_⟩⟩
 have G3:LG (e7 c2 (cell ns m/20)):=LG.turn G2;have e3:e7 c2 (cell ns m/20)=c2.drop t++c2.take t:=by unfold e7;rw[ht']
 rw[<-e3]at q3;have sB:=s4.trans s7;clear hP2 s4 s7 G2 e3 ht ht' hm1 hm2 hn0 l3 l12;generalize e7 c2 (cell ns m/20)=c3 at *
 refine⟨_,rfl,_,_,rfl,rfl,⟨by decide,by decide⟩,_,_,rfl,rfl,(show (0:Int)<2 by decide),rfl,_,rfl,?_⟩
 rw[df];apply xv (Pm:=fun r H3=>av H H3/\∃rf,PLs H3 r rf (dz c3 (cell ns m/20)))
 ·intro rest;refine a9 (fun c=>?_) (fun c=>?_)
  ·have c':cell ns m/20/12%2=1:=by simpa using c
   exact⟨r3,rf3,c3,rfl,q3,fun r4 rf4 H8 s8 q4=>rest r4 H8 ⟨sB.trans s8,rf4,by unfold dz;rw[if_pos c'];exact q4⟩⟩
  ·have c':¬cell ns m/20/12%2=1:=by simpa using c
   exact rest r3 H7 ⟨sB,_,by unfold dz;rw[if_neg c'];exact q3⟩
 rintro r4 H8 ⟨s8,rf4,hP4⟩;have G4:LG (dz c3 (cell ns m/20)):=wB G3;clear q3 sB G3;generalize dz c3 (cell ns m/20)=c4 at *
 have k12:=G4.fe.hi;refine⟨[_,_,_,_,_,_],rfl,?_⟩;refine⟨_,rfl,_,_,rfl,rfl,⟨by decide,by decide⟩,_,_,rfl,rfl,(show (0:Int)<2 by decide),rfl,_,rfl,?_⟩
 rw[df];refine a9 (fun c=>?_) (fun c=>?_)
 ·have c':cell ns m/20/24%2=1:=by simpa using c
  refine⟨r4,rf4,c4,swp,rfl,hP4,by lia,(fun k hk H' s' Q' hq=>?_),fun D rg H' s' hP'=>⟨[_,_,_,_,_,_],rfl,_,rfl,q D rg H' (s8.trans s') (by unfold gO;rw[if_pos c'];exact hP')⟩⟩
  refine⟨_,_,rfl,SqT.of (s' _ _ (hP4.2 k hk)),rfl,_,_,rfl,_,_,rfl,rfl,l8 (by decide) (by decide),?_⟩
  exact⟨_,rfl,_,rfl,_,_,rfl,fun t H4 s4 p4=>hq t H4 s4 p4⟩
 ·have c':¬cell ns m/20/24%2=1:=by simpa using c
  exact⟨[_,_,_,_,_,_],rfl,_,rfl,q r4 rf4 H8 s8 (by unfold gO;rw[if_neg c'];exact hP4)⟩
end
end FD
end
section
namespace FD
open PySem L2 FF
noncomputable abbrev kY:Stmt:=top 43
noncomputable abbrev ye:Stmt:=top 44
noncomputable abbrev ux:Stmt:=top 45
noncomputable abbrev oY:Stmt:=top 46
noncomputable def eL(ns:List Int)(f:Nat)(D7:Int):Tn:=
 ⟨1+(cell ns f%D7-D7/2)*(cell ns (f+1)%D7-D7/2),cell ns f%D7-D7/2,(1-2*(cell ns (f+2)%2))*(cell ns (f+1)%D7-D7/2),1-2*(cell ns (f+2)%2),cell ns (f+3)%10^30-10^29,cell ns (f+2)/2%10^30-10^29⟩
theorem xw{s t g:Int}:(1+s*t)*g-s*(g*t)=g:=by grind
noncomputable def TnA(H:Hp)(t:Addr)(T:Tn):Prop:=H t=some (.tup [.int T.a,.int T.b,.int T.c,.int T.d,.int T.e,.int T.f])
noncomputable def TnB(T:Tn):Prop:=(-(10^30)<=T.a/\T.a<=10^30)/\(-(10^30)<=T.b/\T.b<=10^30)/\(-(10^30)<=T.c/\T.c<=10^30)/\(-(10^30)<=T.d/\T.d<=10^30)/\(-(10^30)<=T.e/\T.e<=10^30)/\(-(10^30)<=T.f/\T.f<=10^30)
theorem qD(ns:List Int)(f:Nat):TnB (eL ns f (10^12)):=by
 have a1:=Int.emod_nonneg (cell ns f) (show ((10:Int)^12)≠0 by decide)
 have a2:=Int.emod_lt_of_pos (cell ns f) (show (0:Int)<10^12 by decide)
 have b1:=Int.emod_nonneg (cell ns (f+1)) (show ((10:Int)^12)≠0 by decide)
 have b2:=Int.emod_lt_of_pos (cell ns (f+1)) (show (0:Int)<10^12 by decide)
 have c1:=Int.emod_nonneg (cell ns (f+2)) (show (2:Int)≠0 by decide)
 have c2:=Int.emod_lt_of_pos (cell ns (f+2)) (show (0:Int)<2 by decide)
 have d1:=Int.emod_nonneg (cell ns (f+3)) (show ((10:Int)^30)≠0 by decide)
 have d2:=Int.emod_lt_of_pos (cell ns (f+3)) (show (0:Int)<10^30 by decide)
 have e1:=Int.emod_nonneg (cell ns (f+2)/2) (show ((10:Int)^30)≠0 by decide)
 have e2:=Int.emod_lt_of_pos (cell ns (f+2)/2) (show (0:Int)<10^30 by decide)
 have k1:=gK (x:=cell ns f%10^12-10^12/2) (y:=cell ns (f+1)%10^12-10^12/2) (a:=10^12) (b:=10^12) (by lia) (by lia) (by decide) (by decide)
 have k2:=gK (x:=1-2*(cell ns (f+2)%2)) (y:=cell ns (f+1)%10^12-10^12/2) (a:=1) (b:=10^12) (by lia) (by lia) (by decide) (by decide)
 unfold TnB eL;simp only;generalize (cell ns f%10^12-10^12/2)*(cell ns (f+1)%10^12-10^12/2)=z1 at *
 generalize (1-2*(cell ns (f+2)%2))*(cell ns (f+1)%10^12-10^12/2)=z2 at *
 omega
theorem B6{T:Tn}{p:Pt}(hT:TnB T)(hp:Nr p):Co (T.led p):=by
 obtain⟨h1,h2,h3,h4,h5,h6⟩:=hT;have k1:=gK h1 hp.1 (by decide) (by decide)
 have k2:=gK h2 hp.2 (by decide) (by decide)
 have k3:=gK h3 hp.1 (by decide) (by decide)
 have k4:=gK h4 hp.2 (by decide) (by decide)
 unfold Co Tn.led;simp only;generalize T.a*p.1=z1 at *
 generalize T.b*p.2=z2 at *
 generalize T.c*p.1=z3 at *
 generalize T.d*p.2=z4 at *
 lia
theorem zj{p:Pt}(h:Nr p):Co p:=by
 obtain⟨h1,h2⟩:=h;unfold Co;lia
noncomputable def nw(K:Z1):Sp:=fun vs H Q _=>∃a ns f D7,vs=[.ref a,.int ((f:Nat):Int),.int D7]/\Scr K H a ns/\0<D7/\D7<=10^40/\∀t H',av H H'->TnA H' t (eL ns f D7)->Q (.ref t) H'
noncomputable def ze:Sp:=fun vs H Q _=>∃tu pt T p,vs=[.ref tu,.ref pt]/\TnA H tu T/\PtA H pt p/\TnB T/\Co p/\∀t H',av H H'->PtA H' t (T.led p)->Q (.ref t) H'
noncomputable def w6:Sp:=fun vs H Q _=>∃l rf cs,vs=[.ref l]/\PLs H l rf cs/\aN cs/\1<=cs.length/\cs.length<=400/\Q (.int (area cs)) H
noncomputable def rY:Sp:=fun vs H Q _=>∃i:Int,vs=[.int i]/\Q (.bl true) H
section
variable{P:Zy}{w:Zm}{K:Z1}{mg:Str->Option Value}{base:ZE}{f:Addr}{fd:ZD}
theorem fK:aD ["script","first","far","s","t","sign","e","f"] ["script","first","far"] (au kY):=.mk'
theorem uc(F:Fun K "_law_turning_by" "_law_turning_by" kY f fd)(cC:Cal P w K mg base 1 "_law_cell_at" ["script","k"] (g8 K)):FnOk P w K mg base CX0 2 f fd ["script","first","far"] (nw K):=by
 refine F.ok fK (by rintro _ _ _ _⟨a,ns,m,D7,rfl,_⟩;rfl) fun C6 A outer s H vs Q E hr h=>?_
 obtain⟨a,ns,m,D7,rfl,hS,f0,f40,q⟩:=h;refine⟨_,ax (ay (i:=3) fK.nd (ag aS (ag bP (aB cC hr (pa2 (pv 0) (pv 1))) (pv 2)) (ag dZ (pv 2) ad)))
  (ax (ay (i:=4) fK.nd (ag aS (ag bP (aB cC hr (pa2 (pv 0) (ag aW (pv 1) ad))) (pv 2)) (ag dZ (pv 2) ad)))
  (ax (ay (i:=5) fK.nd (ag aS ad (ag fQ ad (ag bP (aB cC hr (pa2 (pv 0) (ag aW (pv 1) ad))) ad))))
  (ax (ay (i:=6) fK.nd (ag aS (ag bP (aB cC hr (pa2 (pv 0) (ag aW (pv 1) ad))) (ag jk ad ad)) (ag jk ad ad)))
  (ax (ay (i:=7) fK.nd (ag aS (ag bP (ag dZ (aB cC hr (pa2 (pv 0) (ag aW (pv 1) ad))) ad) (ag jk ad ad)) (ag jk ad ad)))
  (ak (aC (b7 (dD (ag aW ad (ag bQ (pv 3) (pv 4))) (dD (pv 3) (pa4 (ag fQ (pv 5) (pv 4)) (pv 5) (pv 6) (pv 7))))))))))),?_⟩
 have e1:∀j:Nat,((m:Nat):Int)+((j:Nat):Int)=((m+j:Nat):Int):=fun j=>by lia
 have a1:=Int.emod_nonneg (cell ns m) (show D7≠0 by lia)
 have a2:=Int.emod_lt_of_pos (cell ns m) f0;have b1:=Int.emod_nonneg (cell ns (m+1)) (show D7≠0 by lia)
 have b2:=Int.emod_lt_of_pos (cell ns (m+1)) f0;have c1:=Int.emod_nonneg (cell ns (m+2)) (show (2:Int)≠0 by decide)
 have c2:=Int.emod_lt_of_pos (cell ns (m+2)) (show (0:Int)<2 by decide)
 refine⟨_,rfl,_,rfl,a,ns,m,rfl,hS,_,rfl,_,_,rfl,rfl,f0,_,rfl,_,_,rfl,rfl,⟨by decide,by decide⟩,_,_,rfl,rfl,?_⟩
 refine⟨_,rfl,_,rfl,_,_,rfl,rfl,a,ns,m+1,by rw[<-e1 1];rfl,hS,_,rfl,_,_,rfl,rfl,f0,_,rfl,_,_,rfl,rfl,⟨by decide,by decide⟩,_,_,rfl,rfl,?_⟩
 refine⟨_,rfl,_,rfl,_,_,rfl,rfl,a,ns,m+2,by rw[<-e1 2];rfl,hS,_,_,rfl,rfl,(show (0:Int)<2 by decide),_,_,rfl,rfl,.inl ⟨by decide,by decide⟩,_,_,rfl,rfl,?_⟩
 refine⟨_,rfl,_,rfl,_,_,rfl,rfl,a,ns,m+3,by rw[<-e1 3];rfl,hS,_,_,rfl,rfl,⟨by decide,by decide,by decide⟩,_,_,rfl,rfl,(show (0:Int)<10^30 by decide),_,_,rfl,rfl,⟨by decide,by decide,by decide⟩,_,_,rfl,rfl,?_⟩
 refine⟨_,rfl,_,rfl,_,_,rfl,rfl,a,ns,m+2,by rw[<-e1 2];rfl,hS,_,_,rfl,rfl,⟨by decide,by decide⟩,_,_,rfl,rfl,⟨by decide,by decide,by decide⟩,_,_,rfl,rfl,(show (0:Int)<10^30 by decide),_,_,rfl,rfl,⟨by decide,by decide,by decide⟩,_,_,rfl,rfl,?_⟩
 have B1:Big (cell ns m%D7-D7/2):=bv (by lia) (by lia)
 have B2:Big (cell ns (m+1)%D7-D7/2):=bv (by lia) (by lia)
 refine⟨_,rfl,_,rfl,_,_,rfl,rfl,⟨B1,B2⟩,_,_,rfl,rfl,_,rfl,_,rfl,_,rfl,_,_,rfl,rfl,.inl ⟨by lia,by lia⟩,_,rfl,_,rfl,_,rfl,by show 6<=sizeLine;decide,fun t ht=>?_⟩
 exact q t _ (ao ht _) ah
theorem i4:aD ["turning","point","a","b","c","d","e","f"] ["turning","point"] (au ye):=.mk'
theorem Cl{n:Nat}(F:Fun K "_law_led" "_law_led" ye f fd):FnOk P w K mg base CX0 (n+1) f fd ["turning","point"] ze:=by
 refine F.ok i4 (by rintro _ _ _ _⟨tu,pt,T,p,rfl,_⟩;rfl) fun C6 A outer s H vs Q E hr h=>?_
 obtain⟨tu,pt,T,p,rfl,hT,hP,bT,cP,q⟩:=h;refine⟨_,ax (BD (pv 0) (qw rfl (bD (aI (i:=2) i4.nd rfl (ZQ rfl)) (bD (aI (i:=3) i4.nd rfl (ZQ rfl)) (bD (aI (i:=4) i4.nd rfl (ZQ rfl)) (bD (aI (i:=5) i4.nd rfl (ZQ rfl)) (bD (aI (i:=6) i4.nd rfl (ZQ rfl)) (bD (aI (i:=7) i4.nd rfl (ZQ rfl)) gY))))))))
  (ak (aC (b7 (pa2 (ag aW (ag aW (ag bQ (pv 2) (am aw (pv 1) ad)) (ag bQ (pv 3) (am aw (pv 1) ad))) (pv 6)) (ag aW (ag aW (ag bQ (pv 4) (am aw (pv 1) ad)) (ag bQ (pv 5) (am aw (pv 1) ad))) (pv 7)))))),?_⟩
 obtain⟨h1,h2,h3,h4,h5,h6⟩:=bT;have x1:Big p.1:=bv (by have:=cP.1;lia) (by have:=cP.1;lia)
 have x2:Big p.2:=bv (by have:=cP.2;lia) (by have:=cP.2;lia)
 have y1:Big T.a:=bv (by lia) (by lia)
 have y2:Big T.b:=bv (by lia) (by lia)
 have y3:Big T.c:=bv (by lia) (by lia)
 have y4:Big T.d:=bv (by lia) (by lia)
 refine⟨_,rfl,tu,_,rfl,SqT.of hT,rfl,_,_,rfl,_,_,rfl,_,_,rfl,_,_,rfl,_,_,rfl,_,_,rfl,rfl,?_⟩;refine⟨_,rfl,_,rfl,pt,_,_,_,rfl,rfl,SqT.of hP,at0,_,_,rfl,rfl,⟨y1,x1⟩,_,rfl,_,rfl,pt,_,_,_,rfl,rfl,SqT.of hP,at1,_,_,rfl,rfl,⟨y2,x2⟩,_,_,rfl,rfl,_,rfl,_,_,rfl,rfl,
  _,rfl,_,rfl,pt,_,_,_,rfl,rfl,SqT.of hP,at0,_,_,rfl,rfl,⟨y3,x1⟩,_,rfl,_,rfl,pt,_,_,_,rfl,rfl,SqT.of hP,at1,_,_,rfl,rfl,⟨y4,x2⟩,_,_,rfl,rfl,_,rfl,_,_,rfl,rfl,by show 2<=sizeLine;decide,fun t ht=>?_⟩
 exact q t _ (ao ht _) ah
theorem iI:aD ["corners","total","k","one","other"] ["corners"] (au ux):=.mk'
theorem AE{n:Nat}(F:Fun K "_law_sum" "_law_sum" ux f fd)(ml:mg "len" = none)(mr:mg "range" = none):FnOk P w K mg base CX0 (n+1) f fd ["corners"] w6:=by
 refine F.ok iI (by rintro _ _ _ _⟨l,rf,cs,rfl,_⟩;rfl) fun C6 A outer s H vs Q E hr h=>?_
 obtain⟨l,rf,cs,rfl,hp,co,n1,n4,q⟩:=h;refine⟨_,ax (ay (i:=1) iI.nd ad)
  (ax (dF ZU rfl (dH rfl mr (pa1 (aE aM rfl ml ZF (pa1 (pv 0))))) (aI (i:=2) iI.nd rfl (ZQ rfl))
   (ax (ay (i:=3) iI.nd (am aF (pv 0) (ag aS (pv 2) ad)))
   (ax (ay (i:=4) iI.nd (am aF (pv 0) (pv 2)))
   (ak (ay (i:=1) iI.nd (ag aW (pv 1) (ag bQ (ag aS (am aw (pv 3) ad) (am aw (pv 4) ad)) (ag aW (am aw (pv 3) ad) (am aw (pv 4) ad)))))))))
  (ak (aC (pv 1)))),?_⟩
 refine⟨_,rfl,l,_,rfl,.inl (SqL.of hp.1),_,rfl,?_,?_,?_⟩
 ·lia
 ·rw[ai];lia
 rw[ai];have e0:((cs.length:Nat):Int).toNat=cs.length:=by lia
 rw[e0];refine fJ (fun i σ H'=>(∃x2 x3 x4,σ=[some (.ref l),some (.int (m5 cs i)),x2,x3,x4])/\H'=H) ⟨⟨none,none,none,rfl⟩,rfl⟩ ?_ ?_
 ·rintro i σ H' hi ⟨⟨x2,x3,x4,rfl⟩,rfl⟩;have ei:(0:Int)+(i:Int)=(i:Int):=by lia
  rw[ei];have p1:=gv hi;have c1:=co _ p1;have c2:=co _ hi;refine⟨_,rfl,_,rfl,_,_,rfl,rfl,l,_,_,_,rfl,rfl,SqL.of hp.1,gu hi,_,rfl,_,rfl,l,_,_,_,rfl,rfl,SqL.of hp.1,bS hi,_,rfl,_,rfl,_,_,_,_,rfl,rfl,SqT.of (hp.2 _ p1),at0,_,rfl,_,_,_,_,rfl,rfl,SqT.of (hp.2 _ hi),at0,_,_,rfl,rfl,
   _,rfl,_,_,_,_,rfl,rfl,SqT.of (hp.2 _ p1),at1,_,rfl,_,_,_,_,rfl,rfl,SqT.of (hp.2 _ hi),at1,_,_,rfl,rfl,_,_,rfl,rfl,⟨fZ c1.1 c2.1,bv (by have:=c1.2;have:=c2.2;lia) (by have:=c1.2;have:=c2.2;lia)⟩,_,_,rfl,rfl,?_⟩
  exact⟨⟨_,_,_,rfl⟩,rfl⟩
 ·rintro σ H' ⟨⟨x2,x3,x4,rfl⟩,rfl⟩;rw[<-w5 n1]at q;exact⟨_,rfl,q⟩
theorem Ae:aD ["found"] ["found"] (au oY):=.mk'
theorem rj:Y7 K (.type "int") (.type "int")=some true:=by unfold Y7;exact if_pos (by decide)
theorem qL:Y7 K (.type "int") (.type "bool")=some false:=by unfold Y7;rfl
theorem yd{n:Nat}(F:Fun K "_law_whole" "_law_whole" oY f fd)(m1:mg "isinstance" = none)(m2:mg "int" = none)(m3:mg "bool" = none):FnOk P w K mg base CX0 (n+1) f fd ["found"] rY:=by
 refine F.ok Ae (by rintro _ _ _ _⟨i,rfl,_⟩;rfl) fun C6 A outer s H vs Q E hr h=>?_
 obtain⟨i,rfl,q⟩:=h;refine⟨_,ak (aC (jq (aE (d_ (T := "int")) rfl m1 ZM (pa2 (pv 0) (gr (v:=.ty "int") rfl m2 TV rfl)))
  (jE (lO (aE (d_ (T := "bool")) rfl m1 ZM (pa2 (pv 0) (gr (v:=.ty "bool") rfl m3 TJ rfl))))))),?_⟩
 refine⟨_,rfl,_,_,true,rfl,.int i,rj,_,rfl,dt ?_⟩;exact⟨_,rfl,_,_,false,rfl,.int i,qL,_,rfl,q⟩
end
end FD
end
section
namespace FF
noncomputable def gd(p q:Pt):Int:=(Int.gcd (q.1-p.1) (q.2-p.2):Nat)
theorem xf{p q:Pt}(h:p≠q):1<=gd p q:=by
 unfold gd
 have:0<Int.gcd (q.1-p.1) (q.2-p.2):=by
  apply Nat.pos_of_ne_zero;intro e
  have:=Int.gcd_eq_zero_iff.mp e
  exact h (Yy (by lia) (by lia))
 lia
end FF
end
section
namespace FF
end FF
end
section
namespace FF
theorem zb(x:Int):0<=x*x:=by
 rcases Int.le_total 0 x with h|h
 ·exact Int.mul_nonneg h h
 ·have:=Int.mul_nonneg (show 0<=-x by lia) (show 0<=-x by lia)
  have e:-x*-x=x*x:=by grind
  lia
theorem On.led(T:Tn){a b p:Pt}(h:On a b p):On (T.led a) (T.led b) (T.led p):=by
 obtain⟨u,v,hu,hv,h0,e1,e2⟩:=h;refine⟨u,v,hu,hv,h0,?_,?_⟩<;>simp only[Tn.led]<;>grind
end FF
end
section
namespace FF
noncomputable def pc(F:Pt->Pt->Int)(p:Pt):List Pt->Pt->Int
 | [],f=>F p f
 |q::r,f=>F p q+pc F q r f
noncomputable def cyc(F:Pt->Pt->Int):List Pt->Int
 | []=>0
 |c::r=>pc F c r c
theorem jB(F:Pt->Pt->Int):∀(r:List Pt) (p q:Pt) (r':List Pt) (f:Pt),pc F p (r++q::r') f=pc F p r q+pc F q r' f
 | [],p,q,r',f=>rfl
 |x::r,p,q,r',f=>by
  show F p x+pc F x (r++q::r') f=F p x+pc F x r q+pc F q r' f;rw[jB F r x q r' f];lia
theorem gj(F:Pt->Pt->Int):∀(A B:List Pt),cyc F (A++B)=cyc F (B++A)
 | [],B=>by rw[Y6,ZJ]
 |a::A,[]=>by rw[Y6,ZJ]
 |a::A,b::B=>by
  show pc F a (A++b::B) a=pc F b (B++a::A) b;rw[jB,jB];lia
theorem wZ(F:Pt->Pt->Int):∀(r:List Pt) (p f:Pt),pc F f r.reverse p=pc (fun a b=>F b a) p r f
 | [],p,f=>rfl
 |x::r,p,f=>by
  rw[Y9,jB,wZ F r x f];show pc (fun a b=>F b a) x r f+F x p=F x p+pc (fun a b=>F b a) x r f;lia
theorem AU(F:Pt->Pt->Int):∀(A:List Pt),cyc F A.reverse=cyc (fun a b=>F b a) A
 | []=>rfl
 |a::A=>by
  rw[Y9,gj];show pc F a A.reverse a=pc (fun a b=>F b a) a A a;exact wZ F A a a
theorem qi{F G:Pt->Pt->Int}:∀{r:List Pt} {p f:Pt},(∀a b,(a=p\/a∈r)->(b=f\/b∈r)->F a b=G a b)->pc F p r f=pc G p r f
 | [],p,f,h=>h p f (.inl rfl) (.inl rfl)
 |x::r,p,f,h=>by
  show F p x+pc F x r f=G p x+pc G x r f;rw[h p x (.inl rfl) (.inr Zq),qi (r:=r) (fun a b ha hb=>h a b (.inr ?_) ?_)]
  ·rcases ha with rfl|ha
   ·exact Zq
   ·exact Z8 _ ha
  ·rcases hb with rfl|hb
   ·exact .inl rfl
   ·exact .inr (Z8 _ hb)
theorem jM{F G:Pt->Pt->Int}:∀{A:List Pt},(∀a b,a∈A->b∈A->F a b=G a b)->cyc F A=cyc G A
 | [],_=>rfl
 |c::r,h=>by
  refine qi fun a b ha hb=>h a b ?_ ?_
  ·rcases ha with rfl|ha
   ·exact Zq
   ·exact Z8 _ ha
  ·rcases hb with rfl|hb
   ·exact Zq
   ·exact Z8 _ hb
theorem wa(F:Pt->Pt->Int)(g:Pt->Pt):∀(r:List Pt) (p f:Pt),pc F (g p) (r.map g) (g f)=pc (fun a b=>F (g a) (g b)) p r f
 | [],_,_=>rfl
 |x::r,p,f=>by
  show F (g p) (g x)+pc F (g x) (r.map g) (g f)=F (g p) (g x)+pc _ x r f;rw[wa F g r x f]
theorem rN(F:Pt->Pt->Int)(g:Pt->Pt):∀A:List Pt,cyc F (A.map g)=cyc (fun a b=>F (g a) (g b)) A
 | []=>rfl
 |c::r=>wa F g r c c
theorem vj(F G:Pt->Pt->Int):∀(r:List Pt) (p f:Pt),pc (fun a b=>F a b+G a b) p r f=pc F p r f+pc G p r f
 | [],_,_=>rfl
 |x::r,p,f=>by
  show F p x+G p x+pc _ x r f=F p x+pc F x r f+(G p x+pc G x r f);rw[vj F G r x f];lia
theorem Aw(F G:Pt->Pt->Int):∀A:List Pt,cyc (fun a b=>F a b+G a b) A=cyc F A+cyc G A
 | []=>rfl
 |c::r=>vj F G r c c
theorem zv:∀(r:List Pt) (p f:Pt),pc cr p r f=pa p r f
 | [],_,_=>rfl
 |x::r,p,f=>by show cr p x+pc cr x r f=cr p x+pa x r f;rw[zv r x f]
theorem jU:∀A:List Pt,cyc cr A=area A
 | []=>rfl
 |c::r=>zv r c c
theorem tq{F:Pt->Pt->Int}{p:Pt}(h:F p p=0)(A B:List Pt):cyc F (A++p::p::B)=cyc F (A++p::B):=by
 rw[gj,gj F A];show F p p+pc F p (B++A) p=pc F p (B++A) p;rw[h];lia
theorem o3(F:Pt->Pt->Int):∀(r:List Pt) (p f g:Pt),pc F p r f-F (dL p r) f=pc F p r g-F (dL p r) g
 | [],p,f,g=>by show F p f-F p f=F p g-F p g;lia
 |x::r,p,f,g=>by
  show F p x+pc F x r f-F (dL x r) f=F p x+pc F x r g-F (dL x r) g
  have:=o3 F r x f g;lia
theorem yw(F:Pt->Pt->Int){cs:List Pt}{c:Pt}(h0:cs≠[]):cyc F (c::cs)=cyc F cs+F (at' cs (cs.length-1)) c+F c (at' cs 0)-F (at' cs (cs.length-1)) (at' cs 0):=by
 match cs,h0 with
 |p::r,_=>
  have e:at' (p::r) ((p::r).length-1)=dL p r:=by rw[<-kO];rfl
  rw[e];show F c p+pc F p r c=pc F p r p+F (dL p r) c+F c p-F (dL p r) p
  have:=o3 F r p c p;lia
theorem qg(F:Pt->Pt->Int){A B:List Pt}{c:Pt}(h0:A++B≠[]):cyc F (A++[c]++B)=cyc F (A++B)+F (at' (B++A) ((A++B).length-1)) c+F c (at' (B++A) 0)-F (at' (B++A) ((A++B).length-1)) (at' (B++A) 0):=by
 rw[Zf,gj F A,gj F A];have hl:(A++B).length=(B++A).length:=by rw[Z5,Z5];lia
 rw[hl];refine yw F (cs:=B++A) ?_;intro e
 have:=congrArg Xx e
 rw[<-hl]at this;exact h0 (Yd this)
theorem Bm(F:Pt->Pt->Int):∀(r:List Pt) (p f:Pt),pc F p r f=S (fun i=>F (at' (p::r) i) (at' (p::r) (i+1))) r.length+F (at' (p::r) r.length) f
 | [],p,f=>by show F p f=0+F p f;lia
 |x::r,p,f=>by
  show F p x+pc F x r f=S (fun i=>F (at' (p::x::r) i) (at' (p::x::r) (i+1))) (r.length+1)+F (at' (p::x::r) (r.length+1)) f;rw[pV,Bm F r x f];show F p x+(S (fun i=>F (at' (x::r) i) (at' (x::r) (i+1))) r.length+F (at' (x::r) r.length) f)=F p x+S (fun i=>F (at' (x::r) i) (at' (x::r) (i+1))) r.length+F (at' (x::r) r.length) f;lia
theorem zp(F:Pt->Pt->Int):∀{cs:List Pt},1<=cs.length->cyc F cs=S (fun k=>F (at' cs (pvN cs.length k)) (at' cs k)) cs.length
 |c::r,_=>by
  show pc F c r c=S (fun k=>F (at' (c::r) (pvN (r.length+1) k)) (at' (c::r) k)) (r.length+1);rw[pV,Bm];have e:∀i,i<r.length->F (at' (c::r) (pvN (r.length+1) (i+1))) (at' (c::r) (i+1))=F (at' (c::r) i) (at' (c::r) (i+1)):=by
   intro i _;rfl
  rw[tw e];show _+F (at' (c::r) r.length) c=F (at' (c::r) r.length) c+_;lia
theorem r_(w:Pt->Int):∀(r:List Pt) (p f:Pt),pc (fun a b=>w b-w a) p r f=w f-w p
 | [],p,f=>rfl
 |x::r,p,f=>by
  show w x-w p+pc _ x r f=w f-w p;rw[r_ w r x f];lia
theorem yA(w:Pt->Int):∀A:List Pt,cyc (fun a b=>w b-w a) A=0
 | []=>rfl
 |c::r=>by show pc _ c r c=0;rw[r_];lia
theorem qv{f:Nat->Int}:∀{n:Nat},(∀i,i<n->0<=f i)->0<=S f n
 |0,_=>Int.le_refl _
 |n+1,h=>by
  have h1:=qv (n:=n) (fun i hi=>h i (by lia))
  have h2:=h n (by lia)
  show 0<=S f n+f n;lia
theorem nJ{f:Nat->Int}:∀{n:Nat},(∀i,i<n->0<=f i)->(0<S f n↔∃i,i<n/\0<f i)
 |0,_=>⟨fun h=>absurd h (by show ¬(0:Int)<0;lia),fun ⟨i,hi,_⟩=>absurd hi (by lia)⟩
 |n+1,h=>by
  have h1:=qv (n:=n) (fun i hi=>h i (by lia))
  have h2:=h n (by lia)
  have ih:=nJ (n:=n) (fun i hi=>h i (by lia))
  constructor
  ·intro z;have z':0<S f n+f n:=z;by_cases c:0<f n
   ·exact⟨n,by lia,c⟩
   ·obtain⟨i,hi,q⟩:=ih.mp (by lia)
    exact⟨i,by lia,q⟩
  ·rintro⟨i,hi,q⟩;show 0<S f n+f n;by_cases c:i=n
   ·subst c;lia
   ·have:=ih.mpr ⟨i,by lia,q⟩;lia
end FF
end
section
namespace FD
open PySem L2 FF
section
variable{P:Zy}{w:Zm}{K:Z1}{mg:Str->Option Value}{base:ZE}{f:Addr}{fd:ZD}
end
end FD
end
section
namespace FD
open PySem L2 FF
noncomputable abbrev lj:Stmt:=top 48
noncomputable def nV:Sp:=fun vs H Q _=>∃x y:Int,vs=[.int x,.int y]/\Q (.int ((Int.gcd x y:Nat):Int)) H
section
variable{P:Zy}{w:Zm}{K:Z1}{mg:Str->Option Value}{base:ZE}{f:Addr}{fd:ZD}
theorem fH:aD ["one","other","rest"] ["one","other"] (au lj):=.mk'
theorem sC(x:Int):(if x<0 then -x else x)=((x.natAbs:Nat):Int):=by split<;>omega
theorem tU{n:Nat}(F:Fun K "_law_common" "_law_common" lj f fd)(CW:mg "abs" = none):FnOk P w K mg base CX0 (n+1) f fd ["one","other"] nV:=by
 refine F.ok fH (by rintro _ _ _ _⟨_,_,rfl,_⟩;rfl) fun C6 A outer s H vs Q E hr h=>?_
 obtain⟨x,y,rfl,q⟩:=h;refine⟨_,aq (ay (i:=0) fH.nd (aE gs rfl CW YL (pa1 (pv 0))))
  (aq (ay (i:=1) fH.nd (aE gs rfl CW YL (pa1 (pv 1))))
  (aq (k9 ZU (aV ia (pv 1) ad) (aq (ay (i:=2) fH.nd (ag dC (pv 0) (pv 1)))
   (aq (ay (i:=0) fH.nd (pv 1))
   (ak (ay (i:=1) fH.nd (pv 2))))))
  (ak (aC (pv 0))))),?_⟩
 refine⟨_,rfl,_,rfl,[_,_,_],rfl,?_⟩;refine⟨_,rfl,_,rfl,[_,_,_],rfl,?_⟩;rw[sC,sC];refine⟨fun m σ H'=>∃(a:Nat) (x2:Option V),σ=[some (.int (a:Int)),some (.int (m:Int)),x2]/\H'=H/\Nat.gcd a m=Int.gcd x y,⟨_,x.natAbs,_,rfl,rfl,rfl⟩,?_⟩;rintro b σ H' ⟨a,x2,rfl,rfl,e⟩;refine⟨_,rfl,_,_,rfl,rfl,_,rfl,?_⟩;refine a9 (fun c=>?_) (fun c=>⟨[_,_,_],rfl,?_⟩)
 ·have c0:0<b:=by have:=Zi c;omega
  refine⟨_,fun σ' H' z=>z,?_⟩;refine⟨_,rfl,_,rfl,_,_,rfl,rfl,by omega,[_,_,_],rfl,?_⟩
  refine⟨_,rfl,[_,_,_],rfl,?_⟩;refine⟨_,rfl,a%b,Nat.mod_lt _ c0,b,_,rfl,rfl,?_⟩;rw[<-e,Nat.gcd_comm a b,Nat.gcd_rec b a,Nat.gcd_comm]
 ·have b0:b=0:=by
   have:¬((0:Int)<b):=fun z=>c (Zo z)
   omega
  subst b0;rw[Nat.gcd_zero_right]at e;refine⟨_,rfl,?_⟩;rw[e];exact q
end
end FD
end
section
namespace L2
open PySem PySem.Spec PyProof.Rows
end L2
namespace L2
open PySem PySem.Spec PyProof.Rows
section
variable(P:Zy)(w:Zm)
end
section
variable{P:Zy}{w:Zm}{H H':Hp}{h h':ZE}{a:Addr}{o:HO}
end
section
variable{P:Zy}{w:Zm}{H:Hp}{h h':ZE}{x e:Addr}{o':HO}
end
section
variable{fs E9 ex ex':List Addr}{H H1 H2:Hp}{h h1 h2 h':ZE}{a x e:Addr}{o:HO}
end
end L2
namespace L2
open PySem PySem.Spec PyProof.Rows
section
variable{X:Cx}{aa:List (Addr×Obj)}{σ:List (Option V)}{H H':Hp}{s:Shared}{h':ZE}
end
end L2
namespace L2
open PySem PySem.Spec PyProof.Rows
section
variable{X:Cx}
variable{a b:Expr}{ta tb:TE}{pos:Pos}
variable{tA DW:TT}{rest:List Expr}
end
end L2
namespace L2
open PySem PySem.Spec PyProof.Rows
section
variable{X:Cx}{aa:List (Addr×Obj)}{σ:St}{H:Hp}{s:Shared}{a:Addr}{xs ys:List V}
end
section
variable{X:Cx}{aa:List (Addr×Obj)}{σ:St}{H:Hp}{s:Shared}{E:Value->Shared->Prop}
end
section
variable{X:Cx}{st:Stmt}{rest:List Stmt}{t u:TS}{e:Expr}{te:TE}{pos:Pos}
end
section
variable{X:Cx}{pos:Pos}
end
section
variable{X:Cx}{pos:Pos}
end
end L2
namespace L2
open PySem PySem.Spec PyProof.Rows
section
variable{X:Cx}{tg:Expr}
end
end L2
namespace L2
open PySem PySem.Spec PyProof.Rows
section
variable{X:Cx}{a b c:Expr}{ta tb tc:TE}{pos:Pos}
end
section
variable{X:Cx}{a b c:Expr}{ta tb tc:TE}{pos:Pos}
end
end L2
namespace L2
open PySem PySem.Spec PyProof.Rows
section
variable{prog:Zy}{w:Zm}{A:ZT}{E:Value->Shared->Prop}{s:Shared}{K:Z1}{x dx C f:Addr}{mA:Str->Option Value}{name:Str}{v:Value}
end
section
variable{P:Zy}{w:Zm}{H H':Hp}{h h':ZE}{a C dx:Addr}{fs E9:List (Str×V)}
end
section
variable{X:Cx}{aa:List (Addr×Obj)}{σ:St}{H:Hp}{s:Shared}{a C dx:Addr}{fs:List (Str×V)}{f:Str}{v:V}{A:ZT}{E:Value->Shared->Prop}
end
section
variable{X:Cx}{o e value:Expr}{f:Str}{pos pos' DE:Pos}{ta tv:TE}
end
section
variable{X:Cx}{aa:List (Addr×Obj)}{σ:St}{H:Hp}{s:Shared}{A:ZT}{E:Value->Shared->Prop}{Q:Value->Shared->Prop}{c:Value}{b:Bool}
end
end L2
namespace L2
open PySem PySem.Spec PyProof.Rows
section
variable{X:Cx}{e:Expr}{es:List Expr}{te:TE}{t:TA}{pos:Pos}
end
section
variable{X:Cx}{aa:List (Addr×Obj)}{σ:St}{H:Hp}{s s':Shared}
end
section
variable{X:Cx}{CX:CXT}{k:Nat}{f C:Addr}{fd:ZD}{ps:List Str}{sp:Sp}{DF:List V}{ds:List Value}{E:XK}{x m:Str}{p pos apos:Pos}{e o:Expr}{es:List Expr}{ta:TE}{t:TA}
end
section
variable{X:Cx}{CX:CXT}{k:Nat}{f C:Addr}{fd:ZD}{ps ks:List Str}{sp:Sp}{E:XK}{x m:Str}{p pos apos kpos:Pos}{e o:Expr}{es:List Expr}{kws:List TD}{te ta:TE}{t tk:TA}{nm:Option Str}
variable{g:List Value->List Value->List Value}{gV:List V->List V->List V}
end
end L2
namespace L2
open PySem PySem.Spec PyProof.Rows
section
variable{X:Cx}{x:Str}{p pos:Pos}{e:Expr}{es:List Expr}{t:TA}{id T:String}{r:List V->Hp->VK->Prop}
end
end L2
namespace L2
open PySem PySem.Spec PyProof.Rows
section
variable{κ:Type}[DecidableEq κ]
end
theorem CG{P:Zy}{w:Zm}{k:Key}{u:Value}(r:RelV (kV k) u):(bR P w).is k u=true:=by
 cases k with
 |inl i=>obtain⟨t,e⟩:=(show ∃t,u=Value.int i t from r);subst e;exact rm P w i t
 |inr x=>obtain⟨t,e⟩:=(show ∃t,u=Value.str x t from r);subst e;exact rn P w x t
theorem nz{P:Zy}{w:Zm}:∀{ks:List Key} {us:List Value},aJ (ks.map kV) us->ItemsAre (bR P w) ks us
 | [],_,r=>by rw[W4]at r;cases r;exact .nil
 |k::ks,_,r=>by
  rw[ZI]at r;cases r with
  |cons h t=>exact .cons (CG h) (nz t)
section
variable{P:Zy}{w:Zm}{H:Hp}{h:ZE}{a:Addr}
theorem vi{ks:List Key}(ok:HOk P w H h)(e:H a=some (.tup (ks.map kV))):(Us (bR P w)).is h ks a:=by
 obtain⟨_,f',r,o,h1,h2,n,h3⟩:=(show bh P w H h a (.tup (ks.map kV)) from ok a _ e)
 exact⟨o,f'.toArray,n,h1,h2,h3,by simpa using nz r⟩
end
section
variable{X:Cx}{aa:List (Addr×Obj)}{σ:St}{H:Hp}{s:Shared}{a:Addr}{y v:V}{u r:Value}{o:Option V}{A:ZT}{E:Value->Shared->Prop}
theorem Inv.big(I:Inv X aa σ H s):sysModules<s.heap.objs.size:=by
 have h:ZV<s.heap.objs.size:=(I.mod.glob.keeps I.bk).lt;exact Nat.lt_trans (by decide) h
theorem zZ{h':ZE}{t':Nat}{ob:HO}(I:Inv X aa σ H s)(mu:Mut (H a))(hs:X0 a s.heap h')(he:∃q,h'.get? a=some q)(new:bh X.prog X.w (upd H a ob) h' a ob):
  Inv X aa σ (upd H a ob) {s with heap:=h',toks:=t'}:=
 I.write (x:=a) (e:=a) mu (.inl rfl) (fun b q hb z=>(hs.2 b hb).trans z) he new
end
section
variable{X:Cx}{aa:List (Addr×Obj)}{σ:St}{H:Hp}{s:Shared}{a:Addr}{CY:List (Key×V)}{k:Key}{u:Value}{A:ZT}{E:Value->Shared->Prop}
end
section
variable{X:Cx}{o i e value:Expr}{pos pos' DE:Pos}{td ty tv:TE}
end
section
variable{X:Cx}{pos:Pos}
end
section
variable{X:Cx}{aa:List (Addr×Obj)}{σ:St}{H:Hp}{s:Shared}{a:Addr}{y d:V}{u r:Value}{o:Option V}{A:ZT}{E:Value->Shared->Prop}
end
section
variable{X:Cx}{o e f:Expr}{apos C8:Pos}{td ty tx:TE}
end
section
variable{X:Cx}{aa:List (Addr×Obj)}{σ:St}{H:Hp}{s:Shared}{a:Addr}{CY:List (Key×V)}{A:ZT}{E:Value->Shared->Prop}
end
section
variable{X:Cx}{aa:List (Addr×Obj)}{σ:St}{H:Hp}{s:Shared}{a:Addr}{y:V}{u:Value}{A:ZT}{E:Value->Shared->Prop}
end
end L2
namespace Att
open PySem PySem.W PySem.Calls PyProof.Rows
section
variable{prog:Zy}{w:Zm}{A:ZT}{E:Value->Shared->Prop}{s:Shared}{K:Frag}
end
end Att
namespace L2
open PySem PySem.Spec PyProof.Rows
end L2
namespace L2
open PySem PySem.Spec PyProof.Rows
end L2
namespace L2
open PySem PySem.Spec PyProof.Rows
section
variable{P:Zy}{w:Zm}{K:Z1}{mg:Str->Option Value}{base:ZE}
end
section
variable{X:Cx}
end
section
variable{κ:Type}[DecidableEq κ]
theorem rR:∀{l:List κ} {k:κ},l.Nodup->¬k∈l->(l++[k]).Nodup
 | [],k,_,_=>by simp
 |a::r,k,h,hk=>by
  obtain⟨h1,h2⟩:=Y4.mp h;show (a::(r++[k])).Nodup;refine Y4.mpr ⟨fun m=>?_,rR h2 fun m=>hk (Zx.mpr (TB m))⟩;rcases ZH.mp m with q|q
  ·exact h1 q
  ·exact hk (Zx.mpr (ZQ (Zg.mp q).symm))
end
end L2
end
section
namespace FK
open PySem
open PySem.Sem (wp)
section
variable{prog:Zy}{w:Zm}{K:Type}[DecidableEq K](knd:KeyKind prog w K)
noncomputable def de(h:ZE)(k:List K×List K)(a:Addr):Prop:=
 ∃o items n b c,h.get? a=some o/\o.cls=.type "tuple"/\o.data=.seq items n/\items.toList=[.ref b,.ref c]/\Y0 knd h k.1 b/\Y0 knd h k.2 c
noncomputable def kR(k:List K×List K):Int:=reduceHash (Yg [tupleKeyHash knd k.1,tupleKeyHash knd k.2])
variable{knd}
theorem de.typeIs{s:Shared}{k:List K×List K}{a:Addr}(x:de knd s.heap k a):s.TypeIs (.ref a) "tuple" :=let ⟨o,_,_,_,_,ho,hc,_⟩:=x;⟨o,ho,hc⟩
theorem de.inj{h:ZE}{a:Addr}{x y:List K×List K}(hx:de knd h x a)(hy:de knd h y a):x=y:=by
 obtain⟨o,items,n,b,c,ho,_,hd,hi,h1,h2⟩:=hx;obtain⟨o',items',n',b',c',C9,_,hd',hi',h1',h2'⟩:=hy;obtain rfl:o=o':=Ze (ho.symm.trans C9);rw[hd]at hd';injection hd' with e1 _
 subst e1;rw[hi]at hi';simp only[Xd,Value.ref.injEq,and_true]at hi';obtain⟨rfl,rfl⟩:=hi';exact Yy (h1.inj h1') (h2.inj h2')
theorem de.keeps{h h':ZE}{k:List K×List K}{a d:Addr}{o:Obj}{es ep}(x:de knd h k a)(ho:h.get? d=some o)(hd:o.data=.dict es ep)(hs:X0 d h h'):de knd h' k a:=by
 obtain⟨o',items,n,b,c,C9,hc,hd',hi,h1,h2⟩:=x;have D':a≠d:=by
  rintro rfl;obtain rfl:o'=o:=Ze (C9.symm.trans ho);rw[hd]at hd';exact nomatch hd'
 exact⟨o',items,n,b,c,(hs.2 a D').trans C9,hc,hd',hi,h1.keeps ho hd hs,h2.keeps ho hd hs⟩
variable{A:ZT}{E:Value->Shared->Prop}{s:Shared}
theorem rq{k:List K×List K}{a:Addr}{Q:Int->Shared->Prop}(hu:A.units+1<cLine)(hk:de knd s.heap k a)(h:Q (kR knd k) {s with toks:=s.toks+((k.1.length+1)+(k.2.length+1)+1)}):
  Zv (model prog w) A (pyHash (.ref a)) Q E s:=by
 have hT:=hk.typeIs;obtain⟨o,items,n,b,c,ho,_,hd,hi,h1,h2⟩:=hk;unfold pyHash
 first|unfold pyHashByItsType|skip
 first|refine Z0 (wpAny_cRoomFor_or (.inr (Nat.lt_of_succ_lt hu)) ?_)|skip
 refine Z0 (YI hT F.slot_tuple_hash.lookup ?_);show Zv _ _ (if (some (Value.builtin "tuple.__hash__")==some Value.none)=true then _ else _) Q E s
 rw[if_neg (by rw[beq_builtin_none];exact Zs)]
 refine Z0 (YI hT F.slot_tuple_hash.lookup ?_);show Zv _ _ (callSpecialIfBoundUnlessNone? (.ref a) "__hash__" _>>=_) Q E s;refine Z0 (wpAny_callSpecialIfBoundUnlessNone?_slot hT F.slot_tuple_hash (X3 F.slot_tuple_hash hT F.entry_tuple_hash ?_ (F.args_tuple_hash_1 _)));show Zv _ _ (UN (.ref a)>>=_) _ _ s;refine Z0 (WN ho hd ?_);refine Z0 ?_;rw[<-YM,hi];have hu1:A.in1.units<cLine:=hu;rw[YJ];refine Z0 (Z0 (WM hu1 h1 (Z6 ?_)));show Zv _ _ (forIn [Value.ref c] _ _) _ _ _;rw[YJ];refine Z0 (Z0 (WM (s:={s with toks:=s.toks+(k.1.length+1)}) hu1 h2 (Z6 ?_)))
 show Zv _ _ (forIn [] _ _) _ _ _;rw[W7];refine Z6 ?_;show Zv _ _ (retInt (Yg [tupleKeyHash knd k.1,tupleKeyHash knd k.2])) _ _ _;refine wpAny_ret_mkInt ?_;show Zv _ _ (if (decide (-(2:Int)^63<=Yg [tupleKeyHash knd k.1,tupleKeyHash knd k.2])&&decide (Yg [tupleKeyHash knd k.1,tupleKeyHash knd k.2]<2^63))=true then _ else _) Q E _
 unfold kR reduceHash at h;by_cases hr:(decide (-(2:Int)^63<=Yg [tupleKeyHash knd k.1,tupleKeyHash knd k.2])&&decide (Yg [tupleKeyHash knd k.1,tupleKeyHash knd k.2]<2^63))=true
 ·rw[if_pos hr];rw[if_pos hr]at h;exact Z6 (by simpa [Nat.add_assoc]using h)
 ·rw[if_neg hr];rw[if_neg hr]at h;exact Z0 (UL (Z6 (by simpa [Nat.add_assoc]using h)))
theorem xg{x y:List K×List K}{a b:Addr}{P:Fin->Shared->Prop}(hu:A.units<cLine)(hx:de knd s.heap x a)(hy:de knd s.heap y b)(h:P (.done (.ret (.bool (decide (x=y))))) s):
  Zv (model prog w) A (WS.«tuple.__eq__» ⟨[.ref a,.ref b],[]⟩) P E s:=by
 have hTb:=hy.typeIs;obtain⟨oa,xs,na,a1,a2,hoa,_,hda,hia,x1,x2⟩:=hx;obtain⟨ob,ys,nb,b1,b2,hob,_,D9,hib,y1,y2⟩:=hy;show Zv _ _ (isInstance (.ref b) (.type "tuple")>>=_) _ _ s;refine Z0 (Xp hTb Ww ?_);simp only[Yk,Zw,ZK];refine Z0 (WN hoa hda ?_);refine Z0 (WN hob D9 ?_);have sx:xs.size=2:=by have:=congrArg Xx hia;simpa using this
 have sy:ys.size=2:=by have:=congrArg Xx hib;simpa using this
 rw[hia,hib,sx,sy];refine Z0 ?_;simp only[List.zip_cons_cons,List.zip_nil_left];rw[YJ];refine Z0 (Z0 (WK hu x1 y1 ?_));by_cases e1:x.1=y.1
 ·rw[Zo e1];simp only[Yk,Zw,ZK];refine Z6 ?_;show Zv _ _ (forIn [(Value.ref a2,Value.ref b2)] _ _) _ _ _;rw[YJ];refine Z0 (Z0 (WK hu x2 y2 ?_));by_cases e2:x.2=y.2
  ·rw[Zo e2];simp only[Yk,Zw,ZK];refine Z6 ?_;show Zv _ _ (forIn [] _ _) _ _ _;rw[W7];refine Z6 (Z6 ?_);rw[Zo (Yy e1 e2)]at h;exact h
  ·rw[ZO e2];simp only[W6,X6];rw[ZO (fun e=>e2 (congrArg WL e))]at h;exact Z0 (Z6 (Z6 (Z6 (Z6 h))))
 ·rw[ZO e1];simp only[W6,X6];rw[ZO (fun e=>e1 (congrArg Vb e))]at h;exact Z0 (Z6 (Z6 (Z6 (Z6 h))))
theorem qZ{x y:List K×List K}{a b:Addr}{Q:Bool->Shared->Prop}(hu:A.units+1<cLine)(hx:de knd s.heap x a)(hy:de knd s.heap y b)(h:Q (decide (x=y)) s):
  Zv (model prog w) A (eqBool (.ref a) (.ref b)) Q E s:=by
 unfold eqBool
 try with_reducible refine YF ?_
 show Zv _ _ (if (Value.ref a==Value.ref b)=true then _ else _) Q E s
 by_cases hab:(Value.ref a==Value.ref b)=true
 ·rw[if_pos hab];have e:a=b:=by have:=eq_of_beq hab;injection this
  subst e;obtain rfl:=hx.inj hy;exact Z0 (UL (Z6 (by simpa using h)))
 ·rw[if_neg hab];exact Z0 (wpAny_richCompare_same_room (op:=.Eq) hx.typeIs hy.typeIs F.slot_tuple_eq
   (X3 F.slot_tuple_eq hx.typeIs F.entry_tuple_eq (xg hu hx hy ⟨_,rfl,(fun e=>nomatch e),Ye h⟩) (F.args_tuple_eq_2 _ _)) (Nat.lt_of_succ_lt hu))
theorem qo{n:Nat}{ks:List K}{a:Addr}{Q:Bool->Shared->Prop}(hk:Y0 knd s.heap ks a)(h:Q true s):Zv (model prog w) A (eqIsQuiet (n+1) (.ref a)) Q E s:=by
 have hT:=hk.typeIs;obtain⟨o,items,m,ho,_,hd,hi⟩:=hk;unfold eqIsQuiet;refine Z0 (YI hT F.slot_tuple_eq.lookup ?_);show Zv _ _ (isInstance (.ref a) (.type "tuple")>>=_) _ _ s;refine Z0 (Xp hT Ww ?_);simp only[Yk,Zw,ZK];refine Z0 (X4 ho hd ?_);refine Z0 ?_;show Zv _ _ (forIn items _ _) _ _ s;rw[<-YM];refine Wt _ (fun rest r s'=>r.1=none/\s'=s/\∀v∈rest,carriedByValue v=true) _ ?_ ?_ _ _ ⟨rfl,rfl,hi.byValue⟩
 ·rintro v rest r s' ⟨hr,rfl,hall⟩;rw[eqIsQuiet_byValue _ (hall v Zq)];refine Z0 (Z6 ?_);simp only[Yk,Zw,ZK];exact Z6 ⟨rfl,rfl,fun u hu'=>hall u (Z8 _ hu')⟩
 ·rintro⟨r1,r2⟩ s' ⟨hr,rfl,_⟩;simp only at hr;subst hr;exact Z6 h
theorem tH{k:List K×List K}{a:Addr}{Q:Bool->Shared->Prop}(hk:de knd s.heap k a)(h:Q true s):Zv (model prog w) A (eqIsQuiet 8 (.ref a)) Q E s:=by
 have hT:=hk.typeIs;obtain⟨o,items,m,b,c,ho,_,hd,hi,h1,h2⟩:=hk;unfold eqIsQuiet;refine Z0 (YI hT F.slot_tuple_eq.lookup ?_);show Zv _ _ (isInstance (.ref a) (.type "tuple")>>=_) _ _ s;refine Z0 (Xp hT Ww ?_);simp only[Yk,Zw,ZK];refine Z0 (X4 ho hd ?_);refine Z0 ?_;show Zv _ _ (forIn items _ _) _ _ s;rw[<-YM,hi];rw[YJ];refine Z0 (Z0 (qo h1 ?_));simp only[Yk,Zw,ZK];refine Z6 ?_;show Zv _ _ (forIn [Value.ref c] _ _) _ _ _;rw[YJ];refine Z0 (Z0 (qo h2 ?_));simp only[Yk,Zw,ZK];refine Z6 ?_;show Zv _ _ (forIn [] _ _) _ _ _;rw[W7];exact Z6 (Z6 h)
end
noncomputable def fC{prog:Zy}{w:Zm}{K:Type}[DecidableEq K](knd:KeyKind prog w K):HeapKind prog w (List K×List K) where
 is:=de knd
 hash:=kR knd
 draws:=fun k=>(k.1.length+1)+(k.2.length+1)+1
 room:=fun A=>A.units+1<cLine
 inj:=fun hx hy=>hx.inj hy
 keeps:=fun x ho hd hs=>x.keeps ho hd hs
 pyHash:=fun hu hk h=>rq hu hk h
 eqBool:=fun hu hx hy h=>qZ hu hx hy h
 quiet:=fun hk h=>tH hk h
end FK
end
section
namespace FK
open PySem
section
variable{prog:Zy}{w:Zm}{A:ZT}{E:Value->Shared->Prop}{s:Shared}
noncomputable def m7(h:ZE)(d:Addr)(es:Array W0)(ep:Nat):Prop:=∃o,h.get? d=some o/\o.ExactDict/\o.data=.dict es ep
theorem m7.typeIs{d:Addr}{es:Array W0}{ep:Nat}(x:m7 s.heap d es ep):s.TypeIs (.ref d) "dict" :=let ⟨o,ho,hc,_⟩:=x;⟨o,ho,hc.1⟩
theorem yM{d:Addr}{es:Array W0}{ep:Nat}{Q:Value->Shared->Prop}(hd:(d==sysModules)=false)(hm:m7 s.heap d es ep)
  (hQ:Q (.ref s.heap.objs.size) {s with heap:=s.heap.push {cls:=.type "dict_keyiterator",data:=.fields #[.ref d,.int 0 0,.int es.size 0,.int ep 0]}}):Zv (model prog w) A (pyIter (.ref d)) Q E s:=by
 have hT:=hm.typeIs;obtain⟨o,ho,hc,hdat⟩:=hm;refine wpAny_pyIter_slot hT F.slot_dict_iter (X3 F.slot_dict_iter hT F.entry_dict_iter ?_ (F.args_dict_iter_1 _));unfold WS.«dict.__iter__»;refine Z0 ?_;unfold T7;refine Z0 (wpAny_notOrdered_dict hT ?_);show Zv _ _ (pure (Value.ref d)) _ _ s;refine Z6 ?_;show Zv _ _ (Vf d>>=_) _ _ s;unfold Vf;rw[if_neg (by rw[hd];exact Zs)]
 refine Z0 (Z6 ?_);refine Z0 (WT ho hdat ?_);refine Z0 (Vl ho hdat ?_);refine Z0 (W8 (Z6 ⟨_,rfl,"dict_keyiterator",_,⟨_,Zl _ rfl,rfl⟩,F.slot_dict_keyiterator_next.lookup,?_⟩));simpa [Xb]using hQ
theorem yx{it d:Addr}{i ep:Nat}{es:Array W0}{e:W0}{Q:Option Value->Shared->Prop}(hit:s.heap.IsKeyIter it d i es.size ep)(hm:m7 s.heap d es ep)(hx:es[i]?=some e)
  (hQ:∀h',h'.IsKeyIter it d (i+1) es.size ep->X0 it s.heap h'->Q (some e.key) {s with heap:=h'}):Zv (model prog w) A (pyNext (.ref it)) Q E s:=by
 obtain⟨o,ho,hc,hd⟩:=id hit;obtain⟨od,hod,Dj,hdd⟩:=id hm;unfold pyNext;refine Z0 (WZ (Xo (name:=ZN "__next__") hit.typeIs F.slot_dict_keyiterator_next
  (X3 F.slot_dict_keyiterator_next hit.typeIs F.entry_dict_keyiterator_next ?_ (F.args_dict_keyiterator_next_1 _))))
 refine Z0 (Z6 ?_);refine Z0 ?_;refine Z0 ?_
 first|refine Z0 (YT hit.typeIs (Z6 ?_))|refine Z0 (Xs hit.typeIs (Z6 ?_))
 refine Z0 (UO ho hd ?_);have hown:Wd "dict_keyiterator" = false:=by decide
 simp only[hown,Zw,ZK];show Zv _ _ (if (Value.ref d==Value.none)=true then _ else _) _ _ s
 rw[if_neg (show ¬((Value.ref d==Value.none)=true) from Zs)]
 refine Z0 (Z6 ?_);refine Z0 (WT hod hdd ?_);rw[if_neg (by simp)]
 refine Z0 (Z6 ?_);refine Z0 (Vl hod hdd ?_);rw[if_neg (by simp)]
 refine Z6 ?_;simp only[show ¬((i:Int)<0) from by omega,ZK,Int.toNat_natCast,hx]
 refine Z0 ?_
 first|refine Z0 (YT hit.typeIs (Z6 ?_))|refine Z0 (Xs hit.typeIs (Z6 ?_))
 refine Z0 (Ve hit.typeIs ?_);show Zv _ _ (setField (.ref it) 1 (Xb ((i:Int)+1))>>=_) _ _ s;refine Z0 (UP ho hd (by simp) ?_)
 have hit':(s.heap.update it (Tg (·.setIfInBounds 1 (Xb ((i:Int)+1))))).IsKeyIter it d (i+1) es.size ep:=
  ⟨_,Yb _ ho (Obj.isFreed_of_fields (U3 hd _)),(Obj.cls_mapFields ..).trans hc,by rw[U3 hd];simp[Xb]⟩
 refine Z0 (YF ?_);refine Z0 (Ve (s:={s with heap:=s.heap.update it (Tg (·.setIfInBounds 1 (Xb ((i:Int)+1))))}) hit'.typeIs ?_)
 show Zv _ _ (pure e.key) _ _ _;exact Z6 (Z6 ⟨_,rfl,Z6 (hQ _ hit' (XR ..))⟩)
theorem An{it d:Addr}{i ep:Nat}{es:Array W0}{Q:Option Value->Shared->Prop}(hh:A.handled=none)(hit:s.heap.IsKeyIter it d i es.size ep)(hm:m7 s.heap d es ep)(E7:es.size<=i)
  (hQ:∀h',Heap.ExtBut it s.heap h'->Q none {s with heap:=h'}):Zv (model prog w) A (pyNext (.ref it)) Q E s:=by
 obtain⟨o,ho,hc,hd⟩:=id hit;obtain⟨od,hod,Dj,hdd⟩:=id hm;unfold pyNext;refine Z0 (WZ (Xo (name:=ZN "__next__") hit.typeIs F.slot_dict_keyiterator_next
  (X3 F.slot_dict_keyiterator_next hit.typeIs F.entry_dict_keyiterator_next ?_ (F.args_dict_keyiterator_next_1 _))))
 refine Z0 (Z6 ?_);refine Z0 ?_;refine Z0 ?_
 first|refine Z0 (YT hit.typeIs (Z6 ?_))|refine Z0 (Xs hit.typeIs (Z6 ?_))
 refine Z0 (UO ho hd ?_);have hown:Wd "dict_keyiterator" = false:=by decide
 simp only[hown,Zw,ZK];show Zv _ _ (if (Value.ref d==Value.none)=true then _ else _) _ _ s
 rw[if_neg (show ¬((Value.ref d==Value.none)=true) from Zs)]
 refine Z0 (Z6 ?_);refine Z0 (WT hod hdd ?_);rw[if_neg (by simp)]
 refine Z0 (Z6 ?_);refine Z0 (Vl hod hdd ?_);rw[if_neg (by simp)]
 refine Z6 ?_;simp only[show ¬((i:Int)<0) from by omega,ZK,Int.toNat_natCast,Xk E7]
 refine Z0 ?_
 first|refine Z0 (YT hit.typeIs (Z6 ?_))|refine Z0 (Xs hit.typeIs (Z6 ?_))
 show Zv _ _ (setField (.ref it) 0 .none>>=_) _ _ s;refine Z0 (UP ho hd (by simp) ?_)
 show Zv _ _ (newExc (.type "StopIteration") []>>=_) _ _ _;refine Z0 ?_;simp only[newExc,newTuple];refine Z0 (W8 ?_ (by size_fits))
 refine Z0 (m:=firstArgMember _ _) (Ui (a:=Value.none) (by first|rfl| (simp only[firstArgMember];rfl)) ?_)
 refine W8 ?_ (by size_fits)
 simp only[raiseNew];refine Z0 (wpAny_handled ?_);rw[show A.in1.handled=none from hh]
 refine Z0 (Z6 (wpAny_throw ?_));refine Z0 (Xp (T := "StopIteration") (b:=true) ⟨_,Zl _ rfl,rfl⟩ UK ?_);exact Z6 (hQ _ (((XR ..).extBut.push _).push _))
end
end FK
end
section
namespace L2
open PySem PySem.Spec PyProof.Rows FK
noncomputable abbrev Stp:=(Int×Int)×(Int×Int)
noncomputable def kp(p:Int×Int):List Key:=[.inl p.1,.inl p.2]
noncomputable def ke(e:Stp):List Key×List Key:=(kp e.1,kp e.2)
theorem oS{e f:Stp}:ke e=ke f↔e=f:=by
 refine⟨fun h=>?_,fun h=>by rw[h]⟩
 obtain⟨⟨a,b⟩,c,d⟩:=e;obtain⟨⟨a',b'⟩,c',d'⟩:=f;simp only[ke,kp,Wl,Xd,Sum.inl.injEq,and_true]at h;obtain⟨⟨rfl,rfl⟩,rfl,rfl⟩:=h
 rfl
noncomputable def xsL(L:List (Stp×Addr)):List ((List Key×List Key)×Addr×Value):=L.map fun x=>(ke x.1,x.2,.bool true)
noncomputable def putL(L:List (Stp×Addr))(e:Stp)(b:Addr):List (Stp×Addr):=if e∈L.map (·.1) then L else L++[(e,b)]
noncomputable def DL(P:Zy)(w:Zm)(a:Addr)(L:List (Stp×Addr))(ep:Nat):HO:=.ext fun h=>(a==sysModules)=false/\∃o es,h.get? a=some o/\o.ExactDict/\o.data=.dict es ep/\es.toList=(xsL L).map (entryOfKey (fC (bR P w)))/\(L.map (·.1)).Nodup
noncomputable def eI(H:Hp)(b:Addr)(e:Stp):Prop:=∃p q,H b=some (.tup [.ref p,.ref q])/\H p=some (.tup [.int e.1.1,.int e.1.2])/\H q=some (.tup [.int e.2.1,.int e.2.2])
noncomputable def aU(H:Hp)(L:List (Stp×Addr)):Prop:=∀x∈L,eI H x.2 x.1
theorem kX{L:List (Stp×Addr)}{e:Stp}:(atKey (xsL L) (ke e)).isSome=decide (e∈L.map (·.1)):=by
 unfold atKey xsL;rw[Option.isSome_map]
 induction L with
 |nil=>rfl
 |cons x L ih=>
  rw[ZI,Vk];by_cases c:x.1=e
  ·rw[Zo (oS.mpr c)];simp[c]
  ·have c2:¬ke x.1=ke e:=fun z=>c (oS.mp z);rw[ZO c2];simp only[ih,ZI,Zx];congr 1;exact propext ⟨.inr,fun z=>z.elim (fun z=>absurd z.symm c) id⟩
theorem vU{L:List (Stp×Addr)}{e:Stp}{b:Addr}:storedH (xsL L) (ke e) b (.bool true)=xsL (putL L e b):=by
 unfold storedH putL;rw[kX];by_cases c:e∈L.map (·.1)
 ·rw[Zo c,if_pos rfl,if_pos c];unfold xsL;rw[Yl];refine WA fun x _=>?_;show putAt (ke e) (.bool true) (ke x.1,x.2,.bool true)=_;unfold putAt
  split<;>rfl
 ·rw[ZO c,if_neg Zs,if_neg c];unfold xsL;rw[ZL];rfl
theorem sq{L:List (Stp×Addr)}{e:Stp}{b:Addr}(h:(L.map (·.1)).Nodup):((putL L e b).map (·.1)).Nodup:=by
 unfold putL;by_cases c:e∈L.map (·.1)
 ·rw[if_pos c];exact h
 ·rw[if_neg c,ZL];exact rR h c
variable{P:Zy}{w:Zm}{H H':Hp}{h:ZE}{a b:Addr}{L:List (Stp×Addr)}{e:Stp}{ep:Nat}
theorem kh(ok:HOk P w H h)(k:eI H b e):(fC (bR P w)).is h (ke e) b:=by
 obtain⟨p,q,h1,h2,h3⟩:=k;obtain⟨_,f',r,o,g1,g2,n,g3⟩:=(show bh P w H h b (.tup [.ref p,.ref q]) from ok b _ h1)
 have k1:(Us (bR P w)).is h (kp e.1) p:=vi ok h2;have k2:(Us (bR P w)).is h (kp e.2) q:=vi ok h3;refine⟨o,f'.toArray,n,p,q,g1,g2,g3,?_,k1,k2⟩;cases r with
 |cons r1 t=>
  cases t with
  |cons r2 t2=>
   cases t2;have e1:=r1;have e2:=r2;cases e1;cases e2
   rfl
theorem eI.mono(k:eI H b e)(f:∀c ys,H c=some (.tup ys)->H' c=some (.tup ys)):eI H' b e:=by
 obtain⟨p,q,h1,h2,h3⟩:=k;exact⟨p,q,f _ _ h1,f _ _ h2,f _ _ h3⟩
theorem aU.mono(k:aU H L)(f:∀c ys,H c=some (.tup ys)->H' c=some (.tup ys)):aU H' L:=fun x hx=>(k x hx).mono f
theorem aU.put(k:aU H L)(kb:eI H b e):aU H (putL L e b):=by
 unfold putL
 split
 ·exact k
 ·intro x hx;rcases ZH.mp hx with z|z
  ·exact k x z
  ·rw[Zg.mp z];exact kb
theorem mJ{o:HO}(ha:∀ys,H a≠some (.tup ys)):∀c ys,H c=some (.tup ys)->upd H a o c=some (.tup ys):=fun c ys hc=>by
 rw[aG (fun z=>ha ys (by rw[<-z];exact hc))];exact hc
theorem pf(ha:H a=some (DL P w b L ep)):∀ys,H a≠some (.tup ys):=fun ys z=>by rw[ha]at z;exact nomatch z
theorem j8(ok:HOk P w H h)(k:aU H L)(ha:H a=some (DL P w a L ep)):(a==sysModules)=false/\h.DictOfH (fC (bR P w)) a (xsL L)/\(L.map (·.1)).Nodup/\∃es,m7 h a es ep/\es.toList=(xsL L).map (entryOfKey (fC (bR P w))):=by
 obtain⟨⟨h0,o,es,h1,h2,h3,h4,h5⟩,_,_⟩:=(show bh P w H h a (DL P w a L ep) from ok a _ ha)
 refine⟨h0,⟨o,es,ep,h1,h2,h3,h4,fun x hx=>?_,?_⟩,h5,es,⟨o,h1,h2,h3⟩,h4⟩
 ·obtain⟨y,hy,rfl⟩:=Yu.mp hx;exact kh ok (k y hy)
 ·unfold xsL;rw[Yl];show ((L.map fun x=>ke x.1)).Nodup
  have:(L.map fun x=>ke x.1)=(L.map (·.1)).map ke:=by rw[Yl];rfl
  rw[this];clear h4 k ha;generalize L.map (·.1)=l at h5
  induction l with
  |nil=>exact XI
  |cons x l ih=>
   obtain⟨n1,n2⟩:=Y4.mp h5;rw[ZI];refine Y4.mpr ⟨fun z=>?_,ih n2⟩;obtain⟨y,hy,ey⟩:=Yu.mp z;rw[oS.mp ey]at hy;exact n1 hy
theorem wU{es:Array W0}{o:Obj}(h0:(a==sysModules)=false)(h1:h.get? a=some o)(h2:o.ExactDict)(h3:o.data=.dict es ep)(h4:es.toList=(xsL L).map (entryOfKey (fC (bR P w))))(h5:(L.map (·.1)).Nodup):bh P w H h a (DL P w a L ep):=
 ⟨⟨h0,o,es,h1,h2,h3,h4,h5⟩,⟨o,h1⟩,fun g1 g2 ⟨q0,o,es,q1,q2⟩ k=>⟨q0,o,es,k o q1,q2⟩⟩
section
variable{X:Cx}{aa:List (Addr×Obj)}{σ:St}{s:Shared}{A:ZT}{E:Value->Shared->Prop}
theorem ug(hu:A.units+2<cLine):(fC (bR X.prog X.w)).room A.in1:=hu
theorem CM{Q:Value->Shared->Prop}(hu:A.units+2<cLine)(I:Inv X aa σ H s)(ha:H a=some (DL X.prog X.w a L ep))(k:aU H L)(kb:eI H b e)(hq:∀s',Inv X aa σ H s'->Q (.bool (decide (e∈L.map (·.1)))) s'):
  Zv (model X.prog X.w) A (compareOp .In (.ref b) (.ref a)) Q E s:=by
 obtain⟨h0,dd,_⟩:=j8 I.hok k ha;refine wpAny_in_heap (ug hu) (kh I.hok kb) h0 dd ?_;rw[kX];exact hq _ (I.tok _)
theorem xS{Q:Value->Shared->Prop}(hu:A.units+2<cLine)(I:Inv X aa σ H s)(ha:H a=some (DL X.prog X.w a L ep))(k:aU H L)(kb:eI H b e)(hq:∀s',Inv X aa σ H s'->Q (.bool (!decide (e∈L.map (·.1)))) s'):
  Zv (model X.prog X.w) A (compareOp .NotIn (.ref b) (.ref a)) Q E s:=by
 obtain⟨h0,dd,_⟩:=j8 I.hok k ha;refine wpAny_notIn_heap (ug hu) (kh I.hok kb) h0 dd ?_;rw[kX];exact hq _ (I.tok _)
theorem Bq{Q:Unit->Shared->Prop}(hu:A.units+2<cLine)(I:Inv X aa σ H s)(ha:H a=some (DL X.prog X.w a L ep))(k:aU H L)(kb:eI H b e)(hz:L.length<=sizeLine)
  (hq:∀ep' s',Inv X aa σ (upd H a (DL X.prog X.w a (putL L e b) ep')) s'->Q () s'):Zv (model X.prog X.w) A (setItem (.ref a) (.ref b) (.bool true)) Q E s:=by
 obtain⟨h0,dd,nd,_⟩:=j8 I.hok k ha;refine wpAny_setItem_heap (hsz:=by unfold xsL;rw[Z7];exact hz) (ug hu) (kh I.hok kb) dd fun h' dd' hs=>?_
 obtain⟨q,es,ep',hq',h2,h3,h4,_,_⟩:=dd';rw[vU]at h4;exact hq ep' _ (zZ I (by rw[ha];exact WF) hs ⟨q,hq'⟩ (wU h0 hq' h2 h3 h4 (sq nd)))
end
noncomputable def BH(P:Zy)(w:Zm)(ty td:TE):TE:=fun σ H Q=>ty σ H fun y H1=>td σ H1 fun x H2=>∃a b e L ep,x=.ref a/\y=.ref b/\H2 a=some (DL P w a L ep)/\aU H2 L/\eI H2 b e/\Q (.bl (decide (e∈L.map (·.1)))) H2
noncomputable def tf(P:Zy)(w:Zm)(ty td:TE):TE:=fun σ H Q=>ty σ H fun y H1=>td σ H1 fun x H2=>∃a b e L ep,x=.ref a/\y=.ref b/\H2 a=some (DL P w a L ep)/\aU H2 L/\eI H2 b e/\Q (.bl (!decide (e∈L.map (·.1)))) H2
noncomputable def yY(P:Zy)(w:Zm)(td ty tv:TE):TS:=fun D σ H=>tv σ H fun v H1=>td σ H1 fun x H2=>ty σ H2 fun y H3=>∃a b e L ep,x=.ref a/\y=.ref b/\v=.bl true/\H3 a=some (DL P w a L ep)/\aU H3 L/\eI H3 b e/\L.length<=sizeLine/\∀ep',D.nx σ (upd H3 a (DL P w a (putL L e b) ep'))
noncomputable def zB(P:Zy)(w:Zm):TE:=fun _ H Q=>∀p,H p=none->Q (.ref p) (upd H p (DL P w p [] 0))
section
variable{X:Cx}{o i value:Expr}{pos pos':Pos}{td ty tv:TE}
theorem BV(hu:X.A.units+2<cLine)(hi:PE X i ty)(ho:PE X o td):PC X .In i o (BH X.prog X.w ty td):=by
 intro aa s σ H Q I h;refine thn (hi aa s σ H _ I h) fun iv s1 ⟨y,H1,I1,ry,q1⟩=>thn (ho aa s1 σ H1 _ I1 q1) fun u s2 zz=>?_;obtain⟨x,H2,I2,rx,a,b,e,L,ep,ex,ey,g1,g2,g3,q2⟩:=zz;subst ex ey;obtain rfl:u=Value.ref a:=rx;obtain rfl:iv=Value.ref b:=ry;exact CM hu I2 g1 g2 g3 fun s3 I3=>⟨.bl (decide (e∈L.map (fun x:Stp×Addr=>x.1))),H2,I3,rfl,q2⟩
theorem wO(hu:X.A.units+2<cLine)(hi:PE X i ty)(ho:PE X o td):PC X .NotIn i o (tf X.prog X.w ty td):=by
 intro aa s σ H Q I h;refine thn (hi aa s σ H _ I h) fun iv s1 ⟨y,H1,I1,ry,q1⟩=>thn (ho aa s1 σ H1 _ I1 q1) fun u s2 zz=>?_;obtain⟨x,H2,I2,rx,a,b,e,L,ep,ex,ey,g1,g2,g3,q2⟩:=zz;subst ex ey;obtain rfl:u=Value.ref a:=rx;obtain rfl:iv=Value.ref b:=ry;exact xS hu I2 g1 g2 g3 fun s3 I3=>⟨.bl (!decide (e∈L.map (fun x:Stp×Addr=>x.1))),H2,I3,rfl,q2⟩
theorem Ac(hu:X.A.units+2<cLine)(ho:PE X o td)(hi:PE X i ty)(hv:PE X value tv)(hs:swapsWith value (some (.Subscript o i pos')) pos.line X.env=pure false):
  PS X (.Assign [.Subscript o i pos'] value pos) (yY X.prog X.w td ty tv):=by
 intro aa s σ H D I h;refine wpAny_Assign_Subscript (thn (hv aa s σ H _ I h) fun r s1 ⟨v,H1,I1,rv,q1⟩=>thn (ho aa s1 σ H1 _ I1 q1) fun u s2 ⟨x,H2,I2,rx,q2⟩=>thn (hi aa s2 σ H2 _ I2 q2) fun iv s3 zz=>?_) hs;obtain⟨y,H3,I3,ry,a,b,e,L,ep,ex,ey,ev,g1,g2,g3,gz,q3⟩:=zz;subst ex ey ev;obtain rfl:u=Value.ref a:=rx;obtain rfl:iv=Value.ref b:=ry;obtain rfl:r=Value.bool true:=rv;exact Bq hu I3 g1 g2 g3 gz fun ep' s4 I4=>⟨σ,_,I4,q3 ep'⟩
theorem AV:PE X (.Dict [] [] pos) (zB X.prog X.w):=fun aa s σ H Q I h=>
 wpAny_Dict_empty ⟨.ref s.heap.objs.size,_,I.laid (a:=s.heap.objs.size) (o:=DL X.prog X.w s.heap.objs.size [] 0) (t':=s.toks) (fun _ _ q=>Z_ _ q) (Nat.le_refl _)
  (wU (YW.mpr (Ne.symm (Nat.ne_of_lt I.big))) (Zl _ rfl) ⟨rfl,rfl,rfl⟩ rfl rfl XI),rfl,h _ (I.hok.fresh (Nat.le_refl _))⟩
end
theorem qm{X:Cx}{pos:Pos}(P:Zy)(w:Zm)(hP:X.prog=P)(hw:X.w=w):PE X (.Dict [] [] pos) (zB P w):=by subst hP hw;exact AV
theorem nc{X:Cx}{o i:Expr}{td ty:TE}(P:Zy)(w:Zm)(hP:X.prog=P)(hw:X.w=w)(hu:X.A.units+2<cLine)(hi:PE X i ty)(ho:PE X o td):PC X .In i o (BH P w ty td):=by subst hP hw;exact BV hu hi ho
theorem tZ{X:Cx}{o i:Expr}{td ty:TE}(P:Zy)(w:Zm)(hP:X.prog=P)(hw:X.w=w)(hu:X.A.units+2<cLine)(hi:PE X i ty)(ho:PE X o td):PC X .NotIn i o (tf P w ty td):=by subst hP hw;exact wO hu hi ho
theorem ph{X:Cx}{o i value:Expr}{pos pos':Pos}{td ty tv:TE}(P:Zy)(w:Zm)(hP:X.prog=P)(hw:X.w=w)(hu:X.A.units+2<cLine)(ho:PE X o td)(hi:PE X i ty)(hv:PE X value tv)(hs:swapsWith value (some (.Subscript o i pos')) pos.line X.env=pure false):
  PS X (.Assign [.Subscript o i pos'] value pos) (yY P w td ty tv):=by subst hP hw;exact Ac hu ho hi hv hs
noncomputable def Itd(P:Zy)(w:Zm)(a:Addr)(L:List (Stp×Addr))(ep:Nat):It:=
 ⟨fun i H=>H a=some (DL P w a L ep)/\aU H L/\i<L.length,fun i H x H'=>H'=H/\∃y,L[i]?=some y/\x=.ref y.2,fun i H=>H a=some (DL P w a L ep)/\aU H L/\L.length<=i⟩
theorem AI{P:Zy}{w:Zm}{K:Z1}{tg:Expr}(a it:Addr)(L:List (Stp×Addr))(ep:Nat):mP P w K tg (Itd P w a L ep) [it] it (fun i h=>h.IsKeyIter it a i L.length ep) where
 mem:=by simp
 obj:=fun i h st b hb=>by
  have e:b=it:=by simpa using hb
  subst e;obtain⟨o,e,c,d⟩:=st;exact⟨o,e,fun v z=>by rw[d]at z;cases z⟩
 keep:=fun i h h' st k=>st.at fun o e=>k it (by simp) o e
 item:=by
  intro X hP hw hK hc i aa s σ H E I hf st hg;subst hP hw hK;obtain⟨ha,hk,hl⟩:=hg;obtain⟨_,_,_,es,raw,he⟩:=j8 I.hok hk ha;have sz:es.size=L.length:=by rw[<-ZY,he,Z7];unfold xsL;rw[Z7]
  have hx:es[i]?=some (entryOfKey (fC (bR X.prog X.w)) (ke L[i].1,L[i].2,.bool true)):=by
   rw[<-Yx,he,Zj];unfold xsL;rw[Zj,Z3 hl];rfl
  obtain⟨f0,f1,f2,f3,f4,f5⟩:=hf it (by simp)
  refine yx (by rw[sz];exact st) raw hx fun h' st' sb=>?_
  rw[sz]at st';have I1:Inv X aa σ H {s with heap:=h'}:=I.turned (t':=s.toks) (fun b o hb e=>(sb.2 b hb).trans e) f0 f1 f3 f4 f5
  obtain⟨o,e,c,d⟩:=id st';exact⟨_,rfl,tN (s:={s with heap:=h'}) e c d (by decide) ⟨.ref L[i].2,H,I1,rfl,⟨rfl,L[i],Z3 hl,rfl⟩,st',fun b hb=>(hf b hb).1⟩⟩
 done:=by
  intro X hP hw hK hc i aa s σ H E I hf st hg;subst hP hw hK;obtain⟨ha,hk,hl⟩:=hg;obtain⟨_,_,_,es,raw,he⟩:=j8 I.hok hk ha;have sz:es.size=L.length:=by rw[<-ZY,he,Z7];unfold xsL;rw[Z7]
  obtain⟨f0,f1,f2,f3,f4,f5⟩:=hf it (by simp)
  exact An (I.ok.hd hc) (by rw[sz];exact st) raw (by rw[sz];exact hl) fun h' eb=>⟨rfl,I.turned (t':=s.toks) (fun b o hb e=>eb b o hb e) f0 f1 f3 f4 f5⟩
 self:=fun _ _ _ _ _ st h=>wpAny_pyIter_keyiter st h
noncomputable def iDL(P:Zy)(w:Zm)(tl:TE):TI:=fun σ H R=>tl σ H fun x H1=>∃a L ep,x=.ref a/\H1 a=some (DL P w a L ep)/\aU H1 L/\R (Itd P w a L ep) H1
theorem CH{X:Cx}{tg l:Expr}{tl:TE}(hl:PE X l tl):PI X tg l (iDL X.prog X.w tl):=by
 intro aa s σ H R I h;refine thn (hl aa s σ H _ I h) fun v s1 zz=>?_;obtain⟨x,H1,I1,r1,a,L,ep,ex,ha,hk,q⟩:=zz;subst ex;obtain rfl:v=Value.ref a:=r1;obtain⟨h0,_,_,es,raw,he⟩:=j8 I1.hok hk ha;have sz:es.size=L.length:=by rw[<-ZY,he,Z7];unfold xsL;rw[Z7]
 refine yM h0 raw ?_;rw[sz];refine⟨s1.heap.objs.size,[s1.heap.objs.size],_,_,H1,rfl,I1.kept (t':=s1.toks) fun b o e=>Z_ _ e,AI a _ L ep,⟨_,Zl _ rfl,rfl,rfl⟩,fun b hb=>?_,q⟩;have e:b=s1.heap.objs.size:=by simpa using hb
 subst e;exact I1.fpOk (Nat.le_refl _) (I1.hok.fresh (Nat.le_refl _))
theorem vy{X:Cx}{tg l:Expr}{tl:TE}(P:Zy)(w:Zm)(hP:X.prog=P)(hw:X.w=w)(hl:PE X l tl):PI X tg l (iDL P w tl):=by subst hP hw;exact CH hl
theorem wX{P:Zy}{w:Zm}{a:Addr}{L:List (Stp×Addr)}{ep:Nat}{g:TG}{tb:TS}{D:iE}{σ:St}{H:Hp}(Pv:Nat->St->Hp->Prop)(h0:Pv 0 σ H)(hl:∀i σ H,i<=L.length->Pv i σ H->H a=some (DL P w a L ep)/\aU H L)
  (hs:∀i x σ H,L[i]?=some x->Pv i σ H->g (.ref x.2) σ H fun σ2 H2=>tb {D with nx:=Pv (i+1),ct:=Pv (i+1),bk:=D.nx} σ2 H2)(hd:∀σ H,Pv L.length σ H->D.nx σ H):
  ∃W:Nat->Nat->St->Hp->Prop,(∃m,W 0 m σ H)/\∀i m σ H,W i m σ H->
   ((Itd P w a L ep).stop i H/\D.nx σ H)\/((Itd P w a L ep).go i H/\∃N:St->Hp->Prop,(∀σ' H',N σ' H'->∃m',m'<m/\W (i+1) m' σ' H')/\∀x H',(Itd P w a L ep).yld i H x H'->g x σ H' fun σ2 H2=>tb {D with nx:=N,ct:=N,bk:=D.nx} σ2 H2):=by
 refine⟨fun i m σ H=>m=L.length-i/\i<=L.length/\Pv i σ H,⟨L.length,by simp,Nat.zero_le _,h0⟩,?_⟩
 rintro i m σ H ⟨rfl,hi,p⟩;have q:=hl i σ H hi p;by_cases C_:i<L.length
 ·refine .inr ⟨⟨q.1,q.2,C_⟩,Pv (i+1),fun σ' H' p'=>⟨L.length-(i+1),by omega,rfl,C_,p'⟩,fun x H' y=>?_⟩
  obtain⟨e,y,hy,ex⟩:=y;subst e ex;exact hs i y σ _ hy p
 ·have e:i=L.length:=by omega
  subst e;exact .inl ⟨⟨q.1,q.2,Nat.le_refl _⟩,hd σ H p⟩
end L2
end
section
namespace FF
theorem jI(a b p:Pt):turn b a p=- turn a b p:=by unfold turn;grind
noncomputable def lp(F:Pt->Pt->Int)(c:Col):List Col->Int
 | []=>F c.lo c.hi
 |d::r=>F c.lo d.lo+lp F d r+F d.hi c.hi
noncomputable def yV(c:Col)(r:List Col):List Pt:=(c::r).map Col.lo++(c::r).reverse.map Col.hi
theorem zc(F:Pt->Pt->Int):∀(r:List Col) (c:Col) (f:Pt),pc F c.lo (r.map Col.lo++(c::r).reverse.map Col.hi) f=lp F c r+F c.hi f
 | [],c,f=>by simp only[W4,Y6,Y9,Ul,ZI,pc,lp]
 |d::r,c,f=>by
  have ih:=zc F r d c.hi;have e:(d::r).map Col.lo++(c::d::r).reverse.map Col.hi=d.lo::((r.map Col.lo++(d::r).reverse.map Col.hi)++[c.hi]):=by
   rw[Y9 (a:=c),ZL,ZI,Xn,Zf];rfl
  rw[e];show F c.lo d.lo+pc F d.lo (_++[c.hi]) f=_;rw[jB,ih];show _+(lp F d r+F d.hi c.hi+F c.hi f)=F c.lo d.lo+lp F d r+F d.hi c.hi+F c.hi f;lia
theorem xZ(F:Pt->Pt->Int)(c:Col)(r:List Col):cyc F (yV c r)=lp F c r+F c.hi c.lo:=zc F r c c.lo
end FF
end
section
namespace FF
variable{c d:Col}{x y:Int}
end FF
end
section
namespace FF
variable{c d:Col}{x y:Int}
end FF
end
section
namespace FF
variable{c d:Col}
end FF
end
section
namespace FF
theorem zD(p:Pt):swp (swp p)=p:=rfl
end FF
end
section
namespace FF
end FF
end
section
namespace FF
theorem tI{F:Pt->Pt->Int}(hF:∀p,F p p=0){m a b:Nat}{x l h:Nat->Int}(C:cI m a b x l h):cyc F (loL m x l++(((loL m x h).drop a).take (m-a-b)).reverse)=cyc F (loL m x l++(loL m x (up m a b l h)).reverse):=by
 have m2:=C.m2;have a1:=C.a1;have b1:=C.b1;have n3:=C.n3
 let mid:List Pt:=((loL m x h).drop 1).take (m-2)
 have midl:mid.length=m-2:=by show (VI _ _).length=_;rw[Za,Zp,aK];lia
 have midat:∀i,i<m-2->at' mid i=(x (i+1),h (i+1)):=by
  intro i hi;show at' (VI _ _) i=_;rw[bE hi,br,bZ (by lia),Nat.add_comm 1 i]
 have top:((loL m x h).drop a).take (m-a-b)=(if a=1 then [] else [(x 0,h 0)])++(mid++(if b=1 then [] else [(x (m-1),h (m-1))])):=by
  have hl:=gi (m:=m) (a:=a) (b:=b) (x:=x) (h:=h) (by lia)
  apply dY
  ·rw[hl,Z5,Z5,midl]
   split<;>split<;>simp<;>lia
  ·intro i hi;rw[hl]at hi;rw[bE hi,br,bZ (by lia),bf]
   by_cases c:a=1
   ·rw[if_pos c];rw[if_neg (by simp),bf,midl]
    simp only[YV,Nat.sub_zero];by_cases c2:i<m-2
    ·rw[if_pos c2,midat i c2,c,Nat.add_comm]
    ·rw[if_neg c2,if_neg (by lia)]
     have:i-(m-2)=0:=by lia
     rw[this]
     have:a+i=m-1:=by lia
     rw[this];rfl
   ·rw[if_neg c];have a0:a=0:=by lia
    subst a0;by_cases c1:i=0
    ·subst c1;rfl
    ·rw[if_neg (by simp only[Yn];lia),bf,midl]
     simp only[Yn,Nat.zero_add];by_cases c2:i-1<m-2
     ·rw[if_pos c2,midat _ c2,show i-1+1=i by lia]
     ·rw[if_neg c2,if_neg (by lia)]
      have:i-1-(m-2)=0:=by lia
      rw[this]
      have:i=m-1:=by lia
      rw[this];rfl
 have full:loL m x (up m a b l h)=(x 0,up m a b l h 0)::(mid++[(x (m-1),up m a b l h (m-1))]):=by
  apply dY
  ·rw[aK,Zd,Z5,midl];simp;lia
  ·intro i hi;rw[aK]at hi;rw[bZ hi];by_cases c1:i=0
   ·subst c1;rfl
   ·obtain⟨j,rfl⟩:∃j,i=j+1:=⟨i-1,by lia⟩
    show _=at' (mid++_) j;rw[bf,midl];by_cases c2:j<m-2
    ·rw[if_pos c2,midat _ c2];unfold up;rw[if_neg (by lia)]
    ·rw[if_neg c2];have e2:j+1=m-1:=by lia
     rw[e2]
     have:j-(m-2)=0:=by lia
     rw[this];rfl
 have low:loL m x l=(x 0,l 0)::(loL m x l).tail:=by
  have hl:(loL m x l).length=m:=aK
  match q:loL m x l,hl with
  | [],hl=>exact absurd hl (by simp only[YV];lia)
  |p::r,_=>
   have:=bZ (m:=m) (x:=x) (l:=l) (k:=0) (by lia)
   rw[q]at this;have e:p=(x 0,l 0):=this;rw[e];rfl
 have lowE:loL m x l=(loL m x l).dropLast++[(x (m-1),l (m-1))]:=by
  apply dY
  ·rw[Z5,Y_,aK];simp;lia
  ·intro i hi;rw[aK]at hi;rw[bf,Y_,aK,X7,aK];by_cases c:i<m-1
   ·rw[if_pos c,bE c]
   ·rw[if_neg c,bZ hi]
    have:i=m-1:=by lia
    rw[this,Nat.sub_self];rfl
 rw[top,full];have stepB:∀Z:List Pt,cyc F (loL m x l++((if b=1 then [] else [(x (m-1),h (m-1))])++Z))=cyc F (loL m x l++((x (m-1),up m a b l h (m-1))::Z)):=by
  intro Z;by_cases c:b=1
  ·rw[if_pos c,Y6];have e:up m a b l h (m-1)=l (m-1):=by unfold up;rw[if_pos (by lia)]
   rw[e,lowE,Zf,Zf];exact (tq (hF _) _ _).symm
  ·rw[if_neg c];have e:up m a b l h (m-1)=h (m-1):=by unfold up;rw[if_neg (by lia)]
   rw[e];rfl
 have stepA:∀Z:List Pt,cyc F (loL m x l++(Z++(if a=1 then [] else [(x 0,h 0)])))=cyc F (loL m x l++(Z++[(x 0,up m a b l h 0)])):=by
  intro Z;by_cases c:a=1
  ·rw[if_pos c,ZJ];have e:up m a b l h 0=l 0:=by unfold up;rw[if_pos (by lia)]
   rw[e,<-Zf,gj F (loL m x l++Z),low];exact (tq (hF _) [] _).symm
  ·rw[if_neg c];have e:up m a b l h 0=h 0:=by unfold up;rw[if_neg (by lia)]
   rw[e]
 have rA:(if a=1 then ([]:List Pt) else [(x 0,h 0)]).reverse=if a=1 then [] else [(x 0,h 0)]:=by split<;>rfl
 have rB:(if b=1 then ([]:List Pt) else [(x (m-1),h (m-1))]).reverse=if b=1 then [] else [(x (m-1),h (m-1))]:=by split<;>rfl
 rw[YZ,YZ,rA,rB,Y9,YZ,Vt];rw[stepA,Zf,stepB,Zf,Xn,Y6]
noncomputable def rest(m:Nat)(x l u:Nat->Int):List Col:=(W1 1 (m-1)).map fun k=>(⟨x k,l k,u k⟩:Col)
theorem yU{m:Nat}{x l u:Nat->Int}(m2:2<=m):loL m x l++(loL m x u).reverse=yV ⟨x 0,l 0,u 0⟩ (rest m x l u):=by
 have q:∀f:Nat->Int,loL m x f=(x 0,f 0)::(W1 1 (m-1)).map fun k=>(x k,f k):=by
  intro f;unfold loL;rw[Wh,show m=(m-1)+1 by lia,Wr,ZI]
  rfl
 unfold yV rest;rw[q,q,<-YO.symm,ZI,ZI,Yl,Yl]
 rfl
end FF
end
section
namespace FF
end FF
end
section
namespace FF
end FF
end
section
namespace FF
theorem da{n k:Nat}(h:k<n):pvN n k<n:=by unfold pvN;split<;>lia
theorem fM{n k:Nat}(h:k<n):nx n (pvN n k)=k:=by unfold nx pvN;(repeat' split)<;>lia
theorem v8{n k:Nat}(h:k<n):pvN n (nx n k)=k:=by unfold nx pvN;(repeat' split)<;>lia
end FF
end
section
namespace FF
end FF
end
section
namespace FF
end FF
end
section
namespace FF
noncomputable def Xf(u v:Int)(p:Pt):Int:=u*p.1+v*p.2
noncomputable def Btw(x y z:Int):Prop:=(x<y/\y<z)\/(z<y/\y<x)
theorem qM(u v:Int)(a b c r:Pt):turn b c r*(Xf u v a-Xf u v r)+turn c a r*(Xf u v b-Xf u v r)+turn a b r*(Xf u v c-Xf u v r)=0:=by
 unfold turn Xf;grind
theorem ja(a b c r:Pt):turn a b r+turn b c r+turn c a r=turn a b c:=by unfold turn;grind
theorem gk(a b c:Pt):turn b c a=turn a b c:=by unfold turn;grind
noncomputable def cK(a b c r:Pt):Prop:=0<=turn a b r/\0<=turn b c r/\0<=turn c a r
theorem bal{p q r A B C:Int}(e:p*A+q*B+r*C=0)(hA:A<0)(hB:0<B)(hC:0<C)(hq:0<=q)(hr:0<r):0<p:=by
 have h1:=Int.mul_nonneg hq (Int.le_of_lt hB);have h2:=Int.mul_pos hr hC;apply Zz;intro hp;have h3:=Int.mul_nonneg (show 0<=-p by lia) (show 0<=-A by lia)
 rw[Int.neg_mul_neg]at h3;lia
theorem BG{p q r A B C:Int}(e:p*A+q*B+r*C=0)(hA:0<A)(hB:B<0)(hC:C<0)(hq:0<=q)(hr:0<r):0<p:=by
 refine bal (A:=-A) (B:=-B) (C:=-C) (q:=q) (r:=r) ?_ (by lia) (by lia) (by lia) hq hr
 rw[Int.mul_neg,Int.mul_neg,Int.mul_neg];lia
theorem Cv(u v:Int){a b c r:Pt}(Et:Btw (Xf u v a) (Xf u v r) (Xf u v c))(hb:0<=turn c a r)
  (h:(Btw (Xf u v a) (Xf u v r) (Xf u v b)/\0<turn a b r)\/(Btw (Xf u v b) (Xf u v r) (Xf u v c)/\0<turn b c r)):cK a b c r:=by
 have e:=qM u v a b c r;unfold Btw at *
 rcases h with ⟨h,t⟩|⟨h,t⟩
 ·refine⟨by lia,?_,hb⟩
  rcases Et with k|k
  ·exact Int.le_of_lt (bal e (by lia) (by lia) (by lia) hb t)
  ·exact Int.le_of_lt (BG e (by lia) (by lia) (by lia) hb t)
 ·refine⟨?_,by lia,hb⟩
  have e2:turn a b r*(Xf u v c-Xf u v r)+turn c a r*(Xf u v b-Xf u v r)+turn b c r*(Xf u v a-Xf u v r)=0:=by lia
  rcases Et with k|k
  ·exact Int.le_of_lt (BG e2 (by lia) (by lia) (by lia) hb t)
  ·exact Int.le_of_lt (bal e2 (by lia) (by lia) (by lia) hb t)
theorem fF(u v:Int){a b c r:Pt}(hp:0<turn a b c)(h:cK a b c r){m:Int}(ha:Xf u v a<=m)(hb:Xf u v b<=m)(hc:Xf u v c<=m):Xf u v r<=m:=by
 have e:=qM u v a b c r;have s:=ja a b c r;obtain⟨h1,h2,h3⟩:=h;apply Zz;intro k;have k1:=Int.mul_nonneg h2 (show 0<=Xf u v r-Xf u v a-1 by lia)
 have k2:=Int.mul_nonneg h3 (show 0<=Xf u v r-Xf u v b-1 by lia)
 have k3:=Int.mul_nonneg h1 (show 0<=Xf u v r-Xf u v c-1 by lia)
 have g1:turn b c r*(Xf u v r-Xf u v a-1)=- (turn b c r*(Xf u v a-Xf u v r))-turn b c r:=by grind
 have g2:turn c a r*(Xf u v r-Xf u v b-1)=- (turn c a r*(Xf u v b-Xf u v r))-turn c a r:=by grind
 have g3:turn a b r*(Xf u v r-Xf u v c-1)=- (turn a b r*(Xf u v c-Xf u v r))-turn a b r:=by grind
 lia
theorem iz(u v:Int){a b c r:Pt}(hp:0<turn a b c)(h:cK a b c r){m:Int}(ha:m<=Xf u v a)(hb:m<=Xf u v b)(hc:m<=Xf u v c):m<=Xf u v r:=by
 have n:∀p:Pt,Xf (-u) (-v) p=- Xf u v p:=fun p=>by unfold Xf;grind
 have:=fF (-u) (-v) hp h (m:=-m) (by rw[n];lia) (by rw[n];lia) (by rw[n];lia)
 rw[n]at this;lia
theorem kH(u v s:Int)(W:Nat->Pt)(m:Nat)(hX:∀j,j<m->Xf u v (W j)<Xf u v (W (j+1)))(hb:∀j,j+1<m->s*turn (W j) (W (j+1)) (W (j+2))<=0):
  ∀j,j+1<=m->s*((W 1).1-(W 0).1)*((W (j+1)).2-(W j).2)-s*((W 1).2-(W 0).2)*((W (j+1)).1-(W j).1)<=0/\s*turn (W 0) (W 1) (W (j+1))<=0
 |0,h=>by
  refine⟨Int.le_of_eq ?_,Int.le_of_eq ?_⟩
  ·show s*((W 1).1-(W 0).1)*((W 1).2-(W 0).2)-s*((W 1).2-(W 0).2)*((W 1).1-(W 0).1)=0;grind
  ·show s*turn (W 0) (W 1) (W 1)=0;unfold turn;grind
 |j+1,h=>by
  have ih:=kH u v s W m hX hb j (by lia)
  have x0:=hX 0 (by lia)
  have x1:=hX j (by lia)
  have x2:=hX (j+1) (by lia)
  have b:=hb j (by lia)
  obtain⟨i1,i2⟩:=ih;have key:s*((W 1).1-(W 0).1)*((W (j+1+1)).2-(W (j+1)).2)-s*((W 1).2-(W 0).2)*((W (j+1+1)).1-(W (j+1)).1)<=0:=by
   have eq:(Xf u v (W (j+1))-Xf u v (W j))*(s*((W 1).1-(W 0).1)*((W (j+1+1)).2-(W (j+1)).2)-s*((W 1).2-(W 0).2)*((W (j+1+1)).1-(W (j+1)).1)) =
     (Xf u v (W (j+1+1))-Xf u v (W (j+1)))*(s*((W 1).1-(W 0).1)*((W (j+1)).2-(W j).2)-s*((W 1).2-(W 0).2)*((W (j+1)).1-(W j).1))+(Xf u v (W 1)-Xf u v (W 0))*(s*turn (W j) (W (j+1)) (W (j+2))):=by
    unfold Xf turn;grind
   have p1:=Int.mul_nonneg (show 0<=Xf u v (W (j+1+1))-Xf u v (W (j+1)) by lia) (show 0<=-(s*((W 1).1-(W 0).1)*((W (j+1)).2-(W j).2)-s*((W 1).2-(W 0).2)*((W (j+1)).1-(W j).1)) by lia)
   have p2:=Int.mul_nonneg (show 0<=Xf u v (W 1)-Xf u v (W 0) by lia) (show 0<=-(s*turn (W j) (W (j+1)) (W (j+2))) by lia)
   rw[Int.mul_neg]at p1 p2;have p3:0<=(Xf u v (W (j+1))-Xf u v (W j))*-(s*((W 1).1-(W 0).1)*((W (j+1+1)).2-(W (j+1)).2)-s*((W 1).2-(W 0).2)*((W (j+1+1)).1-(W (j+1)).1)):=by
    rw[Int.mul_neg,eq];lia
   have:=dh (show 0<Xf u v (W (j+1))-Xf u v (W j) by lia) p3
   lia
  refine⟨key,?_⟩;have e:s*turn (W 0) (W 1) (W (j+1+1))=s*turn (W 0) (W 1) (W (j+1))+(s*((W 1).1-(W 0).1)*((W (j+1+1)).2-(W (j+1)).2)-s*((W 1).2-(W 0).2)*((W (j+1+1)).1-(W (j+1)).1)):=by
   unfold turn;grind
  rw[e];lia
noncomputable def CT(u v:Int)(n:Nat)(g:Nat->Pt)(i:Nat):Prop:=∀t,t<n->t≠i->t≠i+1->t≠i+2->Xf u v (g t)<Xf u v (g i)\/Xf u v (g (i+2))<Xf u v (g t)
theorem nE(u v s:Int){n:Nat}{g:Nat->Pt}(inj:∀i j,i<n->j<n->Xf u v (g i)=Xf u v (g j)->i=j)(mn:∀i,0<i->i<n->Xf u v (g 0)<Xf u v (g i))
  (un:∀i j k,1<=i->i<j->j<k->k<n->¬(Xf u v (g j)<Xf u v (g i)/\Xf u v (g j)<Xf u v (g k))){m:Nat}(m2:2<=m)(Eu:m+1<n)(hm:Xf u v (g m)<Xf u v (g (n-1)))
  (ht:0<s*turn (g 0) (g 1) (g m)):∃i,i+2<=m/\0<s*turn (g i) (g (i+1)) (g (i+2))/\Xf u v (g i)<Xf u v (g (i+1))/\Xf u v (g (i+1))<Xf u v (g (i+2))/\CT u v n g i:=by
 have inc:∀j,j<m->Xf u v (g j)<Xf u v (g (j+1)):=by
  intro j hj;rcases Nat.eq_zero_or_pos j with e|e
  ·subst e;exact mn _ (by lia) (by lia)
  ·apply Zz;intro c;have c1:Xf u v (g (j+1))<Xf u v (g j):=by
    have:Xf u v (g j)≠Xf u v (g (j+1)):=fun z=>by have:=inj _ _ (by lia) (by lia) z;lia
    lia
   have u1:=un j (j+1) (n-1) (by lia) (by lia) (by lia) (by lia)
   have c2:¬Xf u v (g (j+1))<Xf u v (g (n-1)):=fun z=>u1 ⟨c1,z⟩;have jm:j+1≠m:=fun z=>by rw[z]at c2;exact c2 hm
   have u2:=un (j+1) m (n-1) (by lia) (by lia) (by lia) (by lia)
   exact u2 ⟨by lia,hm⟩
 have mono:∀d i,i+d<=m->Xf u v (g i)<=Xf u v (g (i+d)):=by
  intro d
  induction d with
  |zero=>intro i _;exact Int.le_refl _
  |succ d ih=>intro i h;have h1:=ih i (by lia);have h2:=inc (i+d) (by lia);rw[show i+(d+1)=i+d+1 by lia];lia
 have lt:∀i j,i<j->j<=m->Xf u v (g i)<Xf u v (g j):=by
  intro i j hij hj;have h1:=inc i (by lia)
  have h2:=mono (j-(i+1)) (i+1) (by lia)
  rw[show i+1+(j-(i+1))=j by lia]at h2
  lia
 have ex:∃i,i+2<=m/\0<s*turn (g i) (g (i+1)) (g (i+2)):=by
  apply Zz;intro no;have cb:=kH u v s g m inc (fun j hj=>by
   apply Zz;intro c;exact no ⟨j,by lia,by lia⟩) (m-1) (by lia)
  rw[show m-1+1=m by lia]at cb
  lia
 obtain⟨i,im,it⟩:=ex;refine⟨i,im,it,inc i (by lia),inc (i+1) (by lia),fun t tn t0 t1 t2=>?_⟩
 by_cases c:t<i
 ·left;exact lt t i c (by lia)
 ·right;by_cases c2:t<=m
  ·exact lt (i+2) t (by lia) c2
  ·apply Zz;intro k;have ne:Xf u v (g t)≠Xf u v (g (i+2)):=fun z=>by have:=inj _ _ tn (by lia) z;lia
   have l2:Xf u v (g (i+2))<=Xf u v (g m):=by
    have:=mono (m-(i+2)) (i+2) (by lia)
    rw[show i+2+(m-(i+2))=m by lia]at this;exact this
   have tn1:t≠n-1:=fun z=>by rw[z]at k ne;lia
   exact un (i+2) t (n-1) (by lia) (by lia) (by lia) (by lia) ⟨by lia,by lia⟩
theorem Be{u v:Int}{a b c r:Pt}(hp:0<turn a b c)(h1:Xf u v a<Xf u v b)(h2:Xf u v b<Xf u v c)(h:Xf u v r<Xf u v a\/Xf u v c<Xf u v r):¬cK a b c r:=fun k=>by
 have k1:=fF u v hp k (m:=Xf u v c) (by lia) (by lia) (by lia)
 have k2:=iz u v hp k (m:=Xf u v a) (by lia) (by lia) (by lia)
 lia
theorem AN{u v:Int}{a b c r:Pt}(hp:0<turn a b c)(h1:Xf u v c<Xf u v b)(h2:Xf u v b<Xf u v a)(h:Xf u v r<Xf u v c\/Xf u v a<Xf u v r):¬cK a b c r:=fun k=>by
 have k1:=fF u v hp k (m:=Xf u v a) (by lia) (by lia) (by lia)
 have k2:=iz u v hp k (m:=Xf u v c) (by lia) (by lia) (by lia)
 lia
noncomputable def jN(n:Nat)(g:Nat->Pt)(k:Nat):Prop:=0<turn (g k) (g (nx n k)) (g (nx n (nx n k)))/\∀t,t<n->t≠k->t≠nx n k->t≠nx n (nx n k)->¬cK (g k) (g (nx n k)) (g (nx n (nx n k))) (g t)
theorem qf{p q x y:Int}(hp:0<=p)(hq:0<=q)(hx:x<0)(hy:y<0)(e:p*x+q*y=0):p=0/\q=0:=by
 have h1:=Int.mul_nonneg hp (show 0<=-x-1 by lia)
 have h2:=Int.mul_nonneg hq (show 0<=-y-1 by lia)
 have e1:p*(-x-1)=-(p*x)-p:=by grind
 have e2:q*(-y-1)=-(q*y)-q:=by grind
 lia
theorem yr(a b c:Pt):turn c b a=- turn a b c:=by unfold turn;grind
noncomputable def rvF(n:Nat)(g:Nat->Pt)(j:Nat):Pt:=if j=0 then g 0 else g (n-j)
theorem uI(u v:Int){n:Nat}{g:Nat->Pt}(n3:3<=n)(inj:∀i j,i<n->j<n->Xf u v (g i)=Xf u v (g j)->i=j)(mn:∀i,0<i->i<n->Xf u v (g 0)<Xf u v (g i))
  (un:∀i j k,1<=i->i<j->j<k->k<n->¬(Xf u v (g j)<Xf u v (g i)/\Xf u v (g j)<Xf u v (g k)))
  (N:∀k r,k<n->r<n->Btw (Xf u v (g k)) (Xf u v (g r)) (Xf u v (g (nx n k)))->0<turn (g k) (g (nx n k)) (g r)):∃k,k<n/\jN n g k:=by
 have x1:=mn 1 (by lia) (by lia)
 have x2:=mn (n-1) (by lia) (by lia)
 have xne:Xf u v (g 1)≠Xf u v (g (n-1)):=fun z=>by have:=inj _ _ (by lia) (by lia) z;lia
 have e0:nx n 0=1:=by unfold nx;rw[if_neg (by lia)]
 have e1:nx n (n-1)=0:=by unfold nx;rw[if_pos (by lia)]
 have nxs:∀i,i+1<n->nx n i=i+1:=fun i h=>by unfold nx;rw[if_neg (by lia)]
 have tp:0<turn (g (n-1)) (g 0) (g 1):=by
  by_cases c:Xf u v (g 1)<Xf u v (g (n-1))
  ·have:=N (n-1) 1 (by lia) (by lia) (by rw[e1];exact .inr ⟨x1,c⟩)
   rw[e1]at this;exact this
  ·have:=N 0 (n-1) (by lia) (by lia) (by rw[e0];exact .inl ⟨x2,by lia⟩)
   rw[e0]at this;rw[<-gk];exact this
 by_cases em:∃m,2<=m/\m+1<n/\cK (g (n-1)) (g 0) (g 1) (g m)
 ·obtain⟨m,m2,Eu,hm⟩:=em;have x0m:=mn m (by lia) (by lia)
  have by0:=qM u v (g (n-1)) (g 0) (g 1) (g m);have sm:=ja (g (n-1)) (g 0) (g 1) (g m);obtain⟨h1,h2,h3⟩:=hm;have hm:cK (g (n-1)) (g 0) (g 1) (g m):=⟨h1,h2,h3⟩;by_cases c:Xf u v (g 1)<Xf u v (g (n-1))
  ·have r1:=fF u v tp hm (m:=Xf u v (g (n-1))) (Int.le_refl _) (by lia) (by lia)
   have r2:Xf u v (g m)≠Xf u v (g (n-1)):=fun z=>by have:=inj _ _ (by lia) (by lia) z;lia
   have r3:Xf u v (g 1)<Xf u v (g m):=by
    have r4:Xf u v (g 1)≠Xf u v (g m):=fun z=>by have:=inj _ _ (by lia) (by lia) z;lia
    apply Zz;intro k;exact un 1 m (n-1) (by lia) (by lia) (by lia) (by lia) ⟨by lia,by lia⟩
   have tz:turn (g 0) (g 1) (g m)≠0:=fun z=>by
    rw[z,Int.zero_mul,Int.zero_add]at by0
    have:=qf h3 h1 (by lia) (by lia) by0
    lia
   obtain⟨i,im,it,g1,g2,al⟩:=nE u v 1 inj mn un m2 Eu (by lia) (by rw[Int.one_mul];lia)
   rw[Int.one_mul]at it;refine⟨i,by lia,?_⟩
   unfold jN;rw[nxs i (by lia),nxs (i+1) (by lia)]
   exact⟨it,fun t tn t0 t1 t2=>Be it g1 g2 (al t tn t0 t1 t2)⟩
  ·have c:Xf u v (g (n-1))<Xf u v (g 1):=by lia
   have r1:=fF u v tp hm (m:=Xf u v (g 1)) (by lia) (by lia) (Int.le_refl _)
   have r2:Xf u v (g m)≠Xf u v (g 1):=fun z=>by have:=inj _ _ (by lia) (by lia) z;lia
   have r3:Xf u v (g (n-1))<Xf u v (g m):=by
    have r4:Xf u v (g (n-1))≠Xf u v (g m):=fun z=>by have:=inj _ _ (by lia) (by lia) z;lia
    apply Zz;intro k;exact un 1 m (n-1) (by lia) (by lia) (by lia) (by lia) ⟨by lia,by lia⟩
   have tz:turn (g (n-1)) (g 0) (g m)≠0:=fun z=>by
    rw[z,Int.zero_mul,Int.add_zero]at by0
    have:=qf h2 h3 (by lia) (by lia) by0
    lia
   have rv:∀j,0<j->j<n->rvF n g j=g (n-j):=fun j h _=>if_neg (by lia)
   have rv0:rvF n g 0=g 0:=rfl;obtain⟨i,im,it,g1,g2,al⟩:=nE u v (-1) (n:=n) (g:=rvF n g) (m:=n-m) (fun i j hi hj e=>by
     by_cases ci:i=0<;>by_cases cj:j=0
     ·lia
     ·rw[ci,rv0,rv j (by lia) hj]at e
      have:=inj 0 (n-j) (by lia) (by lia) e;lia
     ·rw[cj,rv0,rv i (by lia) hi]at e
      have:=inj (n-i) 0 (by lia) (by lia) e;lia
     ·rw[rv i (by lia) hi,rv j (by lia) hj]at e
      have:=inj (n-i) (n-j) (by lia) (by lia) e;lia)
    (fun i h0 hi=>by rw[rv0,rv i h0 hi];exact mn _ (by lia) (by lia))
    (fun i j k h1 hij hjk hk z=>by
     rw[rv i (by lia) (by lia),rv j (by lia) (by lia),rv k (by lia) (by lia)]at z
     exact un (n-k) (n-j) (n-i) (by lia) (by lia) (by lia) (by lia) ⟨z.2,z.1⟩) (by lia) (by lia)
    (by rw[rv (n-m) (by lia) (by lia),rv (n-1) (by lia) (by lia),show n-(n-m)=m by lia,show n-(n-1)=1 by lia];lia)
    (by
     rw[rv0,rv 1 (by lia) (by lia),rv (n-m) (by lia) (by lia),show n-(n-m)=m by lia]
     show 0 < -1*turn (g 0) (g (n-1)) (g m);rw[jI (g (n-1)) (g 0) (g m)];lia)
   rw[rv (i+1) (by lia) (by lia),rv (i+2) (by lia) (by lia)]at it
   rw[rv (i+1) (by lia) (by lia)]at g1 g2
   rw[rv (i+2) (by lia) (by lia)]at g2
   have it':0<turn (g (n-(i+2))) (g (n-(i+1))) (rvF n g i):=by rw[yr];lia
   have q1:nx n (n-(i+2))=n-(i+1):=by rw[nxs _ (by lia)];lia
   have q2:g (nx n (n-(i+1)))=rvF n g i:=by
    by_cases ci:i=0
    ·rw[ci,e1];rfl
    ·rw[rv i (by lia) (by lia),nxs _ (by lia)];congr 1;lia
   refine⟨n-(i+2),by lia,?_⟩
   unfold jN;rw[q1,q2];refine⟨it',fun t tn t0 t1 t2=>AN (u:=u) (v:=v) it' g1 g2 ?_⟩;have t2':t≠0->t≠n-i:=fun z0 z=>by
    apply t2;by_cases ci:i=0
    ·lia
    ·rw[nxs _ (by lia)];lia
   by_cases tz0:t=0
   ·subst tz0;by_cases ci:i=0
    ·exfalso;apply t2;rw[ci];exact e1.symm
    ·have:=al 0 (by lia) (by lia) (by lia) (by lia)
     rw[rv0,rv (i+2) (by lia) (by lia)]at this
     exact this
   ·have:=al (n-t) (by lia) (fun z=>t2' tz0 (by lia)) (by lia) (by lia)
    rw[rv (n-t) (by lia) (by lia),rv (i+2) (by lia) (by lia),show n-(n-t)=t by lia]at this
    exact this
 ·refine⟨n-1,by lia,?_⟩
  unfold jN;rw[e1,e0];exact⟨tp,fun t tn t0 t1 t2 k=>em ⟨t,by lia,by lia,k⟩⟩
end FF
end
section
namespace FF
structure bo(u v:Int)(n:Nat)(g:Nat->Pt):Prop where
 n3:3<=n
 inj:∀i j,i<n->j<n->Xf u v (g i)=Xf u v (g j)->i=j
 un:∀i j k l,i<j->j<k->k<l->l<n->¬(Xf u v (g i)<Xf u v (g j)/\Xf u v (g k)<Xf u v (g j)/\Xf u v (g i)<Xf u v (g l)/\Xf u v (g k)<Xf u v (g l))/\
  ¬(Xf u v (g j)<Xf u v (g i)/\Xf u v (g j)<Xf u v (g k)/\Xf u v (g l)<Xf u v (g i)/\Xf u v (g l)<Xf u v (g k))
 N:∀k r,k<n->r<n->Btw (Xf u v (g k)) (Xf u v (g r)) (Xf u v (g (nx n k)))->0<turn (g k) (g (nx n k)) (g r)
noncomputable def bH(n s i:Nat):Nat:=if i+s<n then i+s else i+s-n
theorem ff{n s i:Nat}(hs:s<n)(hi:i<n):bH n s i<n:=by unfold bH;split<;>lia
theorem gb{n s i:Nat}(hs:s<n)(hi:i<n):bH n s (nx n i)=nx n (bH n s i):=by unfold bH nx;repeat' split<;>lia
theorem qj{n s i j:Nat}(hs:s<n)(hi:i<n)(hj:j<n)(e:bH n s i=bH n s j):i=j:=by unfold bH at e;split at e<;>split at e<;>lia
theorem bo.rot{u v:Int}{n:Nat}{g:Nat->Pt}(M:bo u v n g){s:Nat}(hs:s<n):bo u v n (fun i=>g (bH n s i)):=by
 refine⟨M.n3,fun i j hi hj e=>qj hs hi hj (M.inj _ _ (ff hs hi) (ff hs hj) e),fun i j k l hij hjk hkl hl=>?_,fun k r hk hr h=>?_⟩
 ·have U:=M.un;by_cases c1:i+s<n
  ·by_cases c2:j+s<n
   ·by_cases c3:k+s<n
    ·by_cases c4:l+s<n
     ·have:=U (i+s) (j+s) (k+s) (l+s) (by lia) (by lia) (by lia) (by lia)
      unfold bH;rw[if_pos c1,if_pos c2,if_pos c3,if_pos c4];exact this
     ·have:=U (l+s-n) (i+s) (j+s) (k+s) (by lia) (by lia) (by lia) (by lia)
      unfold bH;rw[if_pos c1,if_pos c2,if_pos c3,if_neg c4];exact⟨fun z=>this.2 ⟨z.2.2.1,z.1,z.2.2.2,z.2.1⟩,fun z=>this.1 ⟨z.2.2.1,z.1,z.2.2.2,z.2.1⟩⟩
    ·have:=U (k+s-n) (l+s-n) (i+s) (j+s) (by lia) (by lia) (by lia) (by lia)
     unfold bH;rw[if_pos c1,if_pos c2,if_neg c3,if_neg (by lia)]
     exact⟨fun z=>this.1 ⟨z.2.2.2,z.2.2.1,z.2.1,z.1⟩,fun z=>this.2 ⟨z.2.2.2,z.2.2.1,z.2.1,z.1⟩⟩
   ·have:=U (j+s-n) (k+s-n) (l+s-n) (i+s) (by lia) (by lia) (by lia) (by lia)
    unfold bH;rw[if_pos c1,if_neg c2,if_neg (by lia),if_neg (by lia)]
    exact⟨fun z=>this.2 ⟨z.2.1,z.2.2.2,z.1,z.2.2.1⟩,fun z=>this.1 ⟨z.2.1,z.2.2.2,z.1,z.2.2.1⟩⟩
  ·have:=U (i+s-n) (j+s-n) (k+s-n) (l+s-n) (by lia) (by lia) (by lia) (by lia)
   unfold bH;rw[if_neg c1,if_neg (by lia),if_neg (by lia),if_neg (by lia)];exact this
 ·have:=M.N (bH n s k) (bH n s r) (ff hs hk) (ff hs hr)
  rw[<-gb hs hk]at this;exact this h
theorem wT(f:Nat->Int):∀n:Nat,0<n->∃s,s<n/\∀i,i<n->f s<=f i
 |1,_=>⟨0,by lia,fun i hi=>by rw[show i=0 by lia];exact Int.le_refl _⟩
 |n+2,_=>by
  obtain⟨s,hs,h⟩:=wT f (n+1) (by lia)
  by_cases c:f s<=f (n+1)
  ·refine⟨s,by lia,fun i hi=>?_⟩
   by_cases e:i=n+1
   ·rw[e];exact c
   ·exact h i (by lia)
  ·refine⟨n+1,by lia,fun i hi=>?_⟩
   by_cases e:i=n+1
   ·rw[e];exact Int.le_refl _
   ·have:=h i (by lia);lia
theorem bo.ear{u v:Int}{n:Nat}{g:Nat->Pt}(M:bo u v n g):∃k,k<n/\jN n g k:=by
 have n3:=M.n3;obtain⟨s,hs,mn⟩:=wT (fun i=>Xf u v (g i)) n (by lia)
 have R:=M.rot hs;have z0:bH n s 0=s:=by unfold bH;rw[if_pos (by lia)];lia
 have mn':∀i,0<i->i<n->Xf u v (g (bH n s 0))<Xf u v (g (bH n s i)):=fun i h0 hi=>by
  have h1:=mn (bH n s i) (ff hs hi);rw[z0];have ne:Xf u v (g s)≠Xf u v (g (bH n s i)):=fun e=>by
   have:=M.inj _ _ hs (ff hs hi) e
   have:=qj hs (by lia) hi (z0.trans this);lia
  lia
 obtain⟨k,hk,e1,e2⟩:=uI u v (g:=fun i=>g (bH n s i)) n3 R.inj mn' (fun i j k h1 hij hjk hk z=>(R.un 0 i j k (by lia) hij hjk hk).1 ⟨mn' i (by lia) (by lia),z.1,mn' k (by lia) hk,z.2⟩) R.N
 refine⟨bH n s k,ff hs hk,?_⟩;dsimp only at e1 e2;rw[gb hs (aH hk),gb hs hk]at e1 e2;refine⟨e1,fun t tn t0 t1 t2=>?_⟩;obtain⟨j,hj,rfl⟩:∃j,j<n/\bH n s j=t:=by
  refine⟨if s<=t then t-s else t+n-s,by split<;>lia,?_⟩
  unfold bH;split<;>split<;>lia
 refine e2 j hj (fun z=>t0 (by rw[z])) (fun z=>t1 (by rw[z,gb hs hk])) (fun z=>t2 (by rw[z,gb hs (aH hk),gb hs hk]))
theorem vd{a x b c:Int}(h:Btw a x c)(e:x≠b):Btw a x b\/Btw b x c:=by unfold Btw at *;lia
noncomputable def skp(b i:Nat):Nat:=if i<b then i else i+1
theorem B4(b i:Nat):skp b i≠b:=by unfold skp;split<;>lia
theorem hG{n b i:Nat}(h:i+1<n):skp b i<n:=by unfold skp;split<;>lia
theorem fE{b i j:Nat}(h:i<j):skp b i<skp b j:=by unfold skp;split<;>split<;>lia
theorem Cd{n b k:Nat}(hb:b<n)(hk:k+1<n):skp b (nx (n-1) k)=if nx n (skp b k)=b then nx n b else nx n (skp b k):=by
 unfold skp nx;repeat' split<;>lia
theorem A4{n i j:Nat}(hi:i<n)(hj:j<n)(e:nx n i=nx n j):i=j:=by unfold nx at e;split at e<;>split at e<;>lia
theorem bo.cut{u v:Int}{n:Nat}{g:Nat->Pt}(M:bo u v n g)(n4:4<=n){a:Nat}(ha:a<n)(E:jN n g a):bo u v (n-1) (fun i=>g (skp (nx n a) i)):=by
 have hb:=aH ha;have hc:=aH hb;refine⟨by lia,fun i j hi hj e=>?_,fun i j k l hij hjk hkl hl=>M.un _ _ _ _ (fE hij) (fE hjk) (fE hkl) (hG (by lia)),fun k r hk hr h=>?_⟩
 ·have:=M.inj _ _ (hG (by lia)) (hG (by lia)) e
  rcases Nat.lt_trichotomy i j with c|c|c
  ·have:=fE (b:=nx n a) c;lia
  ·exact c
  ·have:=fE (b:=nx n a) c;lia
 ·
  have hk':=hG (n:=n) (b:=nx n a) (i:=k) (by lia)
  have hr':=hG (n:=n) (b:=nx n a) (i:=r) (by lia)
  have rb:=B4 (nx n a) r;rw[Cd hb (by lia)]at h ⊢
  by_cases c:nx n (skp (nx n a) k)=nx n a
  ·rw[if_pos c]at h ⊢;have ek:skp (nx n a) k=a:=A4 hk' ha c;rw[ek]at h ⊢;apply Zz;intro no;have tc:0<=turn (g (nx n (nx n a))) (g a) (g (skp (nx n a) r)):=by rw[jI];lia
   have xb:Xf u v (g (skp (nx n a) r))≠Xf u v (g (nx n a)):=fun e=>rb (M.inj _ _ hr' hb e);have ra:skp (nx n a) r≠a:=fun e=>by rw[e]at h;unfold Btw at h;lia
   have rc:skp (nx n a) r≠nx n (nx n a):=fun e=>by rw[e]at h;unfold Btw at h;lia
   refine E.2 _ hr' ra rb rc (Cv u v h tc ?_);have N1:=M.N a _ ha hr';have N2:=M.N (nx n a) _ hb hr';generalize Xf u v (g (skp (nx n a) r))=x at *
   have:Btw (Xf u v (g a)) x (Xf u v (g (nx n a)))\/Btw (Xf u v (g (nx n a))) x (Xf u v (g (nx n (nx n a)))):=vd h xb
   rcases this with q|q
   ·exact .inl ⟨q,N1 q⟩
   ·exact .inr ⟨q,N2 q⟩
  ·rw[if_neg c]at h ⊢;exact M.N _ _ hk' hr' h
theorem bo.three{u v:Int}{g:Nat->Pt}(M:bo u v 3 g):0<turn (g 0) (g 1) (g 2):=by
 obtain⟨k,hk,e,_⟩:=M.ear
 match k,hk with
 |0,_=>exact e
 |1,_=>have e:0<turn (g 1) (g 2) (g 0):=e;rw[gk]at e;exact e
 |2,_=>have e:0<turn (g 2) (g 0) (g 1):=e;rw[<-gk]at e;exact e
end FF
end
section
namespace FF
theorem gN{u v p q c:Int}(hu:0<u)(hv:0<v)(e:u*p+v*q=(u+v)*c)(h:p<q):p<c/\c<q:=by
 have h1:=Int.mul_pos hv (show 0<q-p by lia)
 have h2:=Int.mul_pos hu (show 0<q-p by lia)
 have e1:(u+v)*(c-p)=v*(q-p):=by grind
 have e2:(u+v)*(q-c)=u*(q-p):=by grind
 have k1:=bC (show 0<u+v by lia) (show 0<(u+v)*(c-p) by rw[e1];exact h1)
 have k2:=bC (show 0<u+v by lia) (show 0<(u+v)*(q-c) by rw[e2];exact h2)
 lia
theorem bg.lin{p q c:Pt}(h:bg p q c)(f g:Int):∃s t:Int,0<s/\0<t/\s*Xf f g p+t*Xf f g q=(s+t)*Xf f g c:=by
 obtain⟨s,t,hs,ht,e1,e2⟩:=h;refine⟨s,t,hs,ht,?_⟩;unfold Xf;grind
theorem bg.btw{u v:Int}{p q c:Pt}(h:bg p q c)(ne:Xf u v p≠Xf u v q):Btw (Xf u v p) (Xf u v c) (Xf u v q):=by
 obtain⟨s,t,hs,ht,e⟩:=h.lin u v;rcases Int.lt_or_gt_of_ne ne with k|k
 ·exact .inl (gN hs ht e k)
 ·have:=gN ht hs (p:=Xf u v q) (q:=Xf u v p) (c:=Xf u v c) (by rw[Int.add_comm t s,<-e];lia) k
  exact .inr this
noncomputable def insF(c:Pt)(g:Nat->Pt):Nat->Pt
 |0=>c
 |i+1=>g i
theorem qQ{p q c:Pt}{s t:Int}(e1:s*p.1+t*q.1=(s+t)*c.1)(e2:s*p.2+t*q.2=(s+t)*c.2)(a b:Pt):(s+t)*turn a b c=s*turn a b p+t*turn a b q:=by
 unfold turn;grind
theorem bo.ins{u v:Int}{n:Nat}{g:Nat->Pt}(M:bo u v n g){c:Pt}(hc:bg (g (n-1)) (g 0) c)(Ew:∀i,i<n->Xf u v c≠Xf u v (g i))
  (H:∀k,k+1<n->Btw (Xf u v (g k)) (Xf u v c) (Xf u v (g (k+1)))->0<turn (g k) (g (k+1)) c):bo u v (n+1) (insF c g):=by
 have n3:=M.n3;have ne:Xf u v (g (n-1))≠Xf u v (g 0):=fun e=>by have:=M.inj _ _ (by lia) (by lia) e;lia
 have bt:=hc.btw ne;have en:nx n (n-1)=0:=by unfold nx;rw[if_pos (by lia)]
 refine⟨by lia,fun i j hi hj e=>?_,fun i j k l hij hjk hkl hl=>?_,fun k r hk hr h=>?_⟩
 ·match i,j,hi,hj,e with
  |0,0,_,_,_=>rfl
  |0,j+1,_,hj,e=>exact absurd e (Ew j (by lia))
  |i+1,0,hi,_,e=>exact absurd e.symm (Ew i (by lia))
  |i+1,j+1,hi,hj,e=>rw[M.inj i j (by lia) (by lia) e]
 ·obtain⟨j,rfl⟩:∃j',j=j'+1:=⟨j-1,by lia⟩
  obtain⟨k,rfl⟩:∃k',k=k'+1:=⟨k-1,by lia⟩
  obtain⟨l,rfl⟩:∃l',l=l'+1:=⟨l-1,by lia⟩
  match i,hij with
  |i+1,hij=>exact M.un i j k l (by lia) (by lia) (by lia) (by lia)
  |0,_=>
   show ¬(Xf u v c<Xf u v (g j)/\Xf u v (g k)<Xf u v (g j)/\Xf u v c<Xf u v (g l)/\Xf u v (g k)<Xf u v (g l))/\¬(Xf u v (g j)<Xf u v c/\Xf u v (g j)<Xf u v (g k)/\Xf u v (g l)<Xf u v c/\Xf u v (g l)<Xf u v (g k));refine⟨fun ⟨z1,z2,z3,z4⟩=>?_,fun ⟨z1,z2,z3,z4⟩=>?_⟩
   ·rcases bt with b|b
    ·have l1:l≠n-1:=fun e=>by rw[e]at z3;lia
     exact (M.un j k l (n-1) (by lia) (by lia) (by lia) (by lia)).2 ⟨by lia,by lia,by lia,by lia⟩
    ·have j1:j≠0:=fun e=>by rw[e]at z1;lia
     exact (M.un 0 j k l (by lia) (by lia) (by lia) (by lia)).1 ⟨by lia,by lia,by lia,by lia⟩
   ·rcases bt with b|b
    ·have j1:j≠0:=fun e=>by rw[e]at z1;lia
     exact (M.un 0 j k l (by lia) (by lia) (by lia) (by lia)).2 ⟨by lia,by lia,by lia,by lia⟩
    ·have l1:l≠n-1:=fun e=>by rw[e]at z3;lia
     exact (M.un j k l (n-1) (by lia) (by lia) (by lia) (by lia)).1 ⟨by lia,by lia,by lia,by lia⟩
 ·obtain⟨s,t,hs,ht,e1,e2⟩:=hc;have N0:=fun r hr=>M.N (n-1) r (by lia) hr
  rw[en]at N0
  match k,hk,r,hr,h with
  |0,_,0,_,h=>
   have h:Btw (Xf u v c) (Xf u v c) _:=h;unfold Btw at h;lia
  |0,_,r+1,hr,h=>
   have e0:nx (n+1) 0=0+1:=by unfold nx;rw[if_neg (by lia)]
   rw[e0]at h ⊢;have h:Btw (Xf u v c) (Xf u v (g r)) (Xf u v (g 0)):=h;show 0<turn c (g 0) (g r)
   have:=N0 r (by lia) (by unfold Btw at *;lia)
   have e:(s+t)*turn c (g 0) (g r)=s*turn (g (n-1)) (g 0) (g r):=by unfold turn;grind
   exact bC (show 0<s+t by lia) (by rw[e];exact Int.mul_pos hs this)
  |k+1,hk,r,hr,h=>
   by_cases kn:k=n-1
   ·subst kn;have e0:nx (n+1) (n-1+1)=0:=by unfold nx;rw[if_pos (by lia)]
    rw[e0]at h ⊢
    match r,hr,h with
    |0,_,h=>
     have h:Btw _ (Xf u v c) (Xf u v c):=h;unfold Btw at h;lia
    |r+1,hr,h=>
     have h:Btw (Xf u v (g (n-1))) (Xf u v (g r)) (Xf u v c):=h;show 0<turn (g (n-1)) c (g r)
     have:=N0 r (by lia) (by unfold Btw at *;lia)
     have e:(s+t)*turn (g (n-1)) c (g r)=t*turn (g (n-1)) (g 0) (g r):=by unfold turn;grind
     exact bC (show 0<s+t by lia) (by rw[e];exact Int.mul_pos ht this)
   ·have e0:nx (n+1) (k+1)=k+1+1:=by unfold nx;rw[if_neg (by lia)]
    rw[e0]at h ⊢
    match r,hr,h with
    |0,_,h=>exact H k (by lia) h
    |r+1,hr,h=>
     have:=M.N k r (by lia) (by lia)
     have e1:nx n k=k+1:=by unfold nx;rw[if_neg (by lia)]
     rw[e1]at this;exact this h
theorem bo.of_peak{u v:Int}{n:Nat}{g:Nat->Pt}(pk:Nat)(n3:3<=n)(inj:∀i j,i<n->j<n->Xf u v (g i)=Xf u v (g j)->i=j)(up:∀i j,i<j->j<=pk->j<n->Xf u v (g i)<Xf u v (g j))(dn:∀i j,pk<=i->i<j->j<n->Xf u v (g j)<Xf u v (g i))
  (N:∀k r,k<n->r<n->Btw (Xf u v (g k)) (Xf u v (g r)) (Xf u v (g (nx n k)))->0<turn (g k) (g (nx n k)) (g r)):bo u v n g:=by
 refine⟨n3,inj,fun i j k l hij hjk hkl hl=>⟨fun ⟨z1,z2,z3,z4⟩=>?_,fun ⟨z1,z2,z3,z4⟩=>?_⟩,N⟩
 ·by_cases c:k<=pk
  ·have:=up j k hjk c (by lia);lia
  ·have:=dn k l (by lia) hkl hl;lia
 ·by_cases c:j<=pk
  ·have:=up i j hij c (by lia);lia
  ·have:=dn j k (by lia) hjk (by lia);lia
section
variable{m a b n:Nat}{x l h:Nat->Int}{P:Nat->Pt}
noncomputable def Bdl(m:Nat)(l h:Nat->Int):Prop:=∀i,i<m->-100<=l i/\l i<=100/\h i<=100
theorem dU{p q r s p' q':Int}(h:p<p')(b1:-100<=q/\q<=100)(b2:-100<=s/\s<=100)(b3:-100<=q'/\q'<=100)(bt:Btw (Xf 1000 1 (p,q)) (Xf 1000 1 (r,s)) (Xf 1000 1 (p',q'))):p<=r/\r<=p'/\(r=p->q<s)/\(r=p'->s<q'):=by
 unfold Btw Xf at bt;dsimp only at bt;lia
theorem fq{p q r s q':Int}(h:q<q')(b1:-100<=q/\q<=100)(b2:-100<=s/\s<=100)(b3:-100<=q'/\q'<=100)(bt:Btw (Xf 1000 1 (p,q)) (Xf 1000 1 (r,s)) (Xf 1000 1 (p,q'))):r=p/\q<s/\s<q':=by
 unfold Btw Xf at bt;dsimp only at bt;lia
theorem Btw.symm{x y z:Int}(h:Btw x y z):Btw z y x:=h.elim .inr .inl
theorem qI{p q p' q':Int}(b1:-100<=q/\q<=100)(b2:-100<=q'/\q'<=100)(h:p<p'):Xf 1000 1 (p,q)<Xf 1000 1 (p',q'):=by
 unfold Xf;dsimp only;lia
theorem AX{p q q':Int}(h:q<q'):Xf 1000 1 (p,q)<Xf 1000 1 (p,q'):=by
 unfold Xf;dsimp only;lia
theorem Bv{p q p' q':Int}(b1:-100<=q/\q<=100)(b2:-100<=q'/\q'<=100)(h:Xf 1000 1 (p,q)=Xf 1000 1 (p',q')):(p,q)=(p',q'):=by
 unfold Xf at h;dsimp only at h;exact Yy (by dsimp only;lia) (by dsimp only;lia)
theorem lE{k r:Nat}(h1:k<=r)(h2:r<=k+1):r=k\/r=k+1:=by lia
theorem tP{k r:Nat}(h1:k<r+1)(h2:r<k+1):r=k:=by lia
theorem g9{k m:Nat}(h:k<m-1):k<m/\k+1<m:=by lia
theorem h_{k m:Nat}(m2:2<=m)(h:k<=m-2):k<m/\k+1<m:=by lia
theorem wQ{p q p' q' s:Int}(h:p<p')(hs:q<s):0<turn (p,q) (p',q') (p,s):=by
 have:=Int.mul_pos (Int.sub_pos_of_lt h) (Int.sub_pos_of_lt hs)
 unfold turn;show 0<(p'-p)*(s-q)-(q'-q)*(p-p);rw[Int.sub_self,Int.mul_zero,Int.sub_zero];exact this
theorem vG{p q p' q' s:Int}(h:p<p')(hs:s<q'):0<turn (p',q') (p,q) (p',s):=by
 have:=Int.mul_pos (Int.sub_pos_of_lt h) (Int.sub_pos_of_lt hs)
 unfold turn;show 0<(p-p')*(s-q')-(q-q')*(p'-p');rw[Int.sub_self,Int.mul_zero,Int.sub_zero,<-Int.neg_sub p' p,<-Int.neg_sub q' s,Int.neg_mul_neg];exact this
theorem vtx(C:cI m a b x l h)(hn:n=2*m-a-b)(hP:∀i,i<n->P i=bO m b x l h i){r:Nat}(hr:r<n):(r<m/\P r=(x r,l r))\/(m<=r/\∃j,a<=j/\j+b<m/\r+j+b+1=2*m/\P r=(x j,h j)):=by
 rw[hP r hr];unfold bO;have m2:=C.m2;have a1:=C.a1;have b1:=C.b1;by_cases c:r<m
 ·rw[if_pos c];exact .inl ⟨c,rfl⟩
 ·rw[if_neg c];exact .inr ⟨by lia,2*m-1-b-r,by lia,by lia,by lia,rfl⟩
theorem fu(C:cI m a b x l h){i:Nat}(hi:i<m):l i<=up m a b l h i/\up m a b l h i<=h i:=by
 have:=C.lh i hi
 unfold up;split<;>lia
theorem cg(C:cI m a b x l h){i j:Nat}(hi:i<m)(e:x i<=x j):i<=j:=
 Nat.le_of_not_lt fun c=>Int.not_lt.mpr e (C.xs j i c hi)
theorem fw(C:cI m a b x l h){i j:Nat}(hi:i<m)(e:x i<x j):i<j:=
 Nat.lt_of_le_of_ne (cg C hi (Int.le_of_lt e)) fun c=>by subst c;exact Int.lt_irrefl _ e
theorem Bl(B:Bdl m l h){i:Nat}(hi:i<m):-100<=l i/\l i<=100:=⟨(B i hi).1,(B i hi).2.1⟩
theorem Bh(C:cI m a b x l h)(B:Bdl m l h){i:Nat}(hi:i<m):-100<=h i/\h i<=100:=⟨Int.le_trans (B i hi).1 (Int.le_of_lt (C.lh i hi)),(B i hi).2.2⟩
theorem Bu(C:cI m a b x l h)(B:Bdl m l h){i:Nat}(hi:i<m):-100<=up m a b l h i/\up m a b l h i<=100:=
 ⟨Int.le_trans (B i hi).1 (fu C hi).1,Int.le_trans (fu C hi).2 (B i hi).2.2⟩
theorem Bf(C:cI m a b x l h){j:Nat}(h1:a<=j)(h2:j+b<m):up m a b l h j=h j:=by
 unfold up;rw[if_neg (by lia)]
theorem bdc(C:cI m a b x l h)(B:Bdl m l h)(hn:n=2*m-a-b)(hP:∀i,i<n->P i=bO m b x l h i){r:Nat}(hr:r<n):∃j y,j<m/\(-100<=y/\y<=100)/\P r=(x j,y):=by
 rcases vtx C hn hP hr with ⟨c1,e1⟩|⟨c1,i',q1,q2,q3,e1⟩
 ·exact⟨r,_,c1,Bl B c1,e1⟩
 ·exact⟨i',_,Nat.lt_of_le_of_lt (Nat.le_add_right _ _) q2,Bh C B (Nat.lt_of_le_of_lt (Nat.le_add_right _ _) q2),e1⟩
theorem n6(C:cI m a b x l h)(B:Bdl m l h)(hn:n=2*m-a-b)(hP:∀i,i<n->P i=bO m b x l h i):bo 1000 1 n P:=by
 have m2:=C.m2;have V:∀r,r<n->_:=fun r hr=>vtx C hn hP hr;refine .of_peak (if b=0 then m else m-1) (hn ▸ C.n3) (fun i j hi hj e=>?_) (fun i j hij hj hjn=>?_) (fun i j hi hij hj=>?_) (fun k r hk hr bt=>?_)
 ·refine sv C hn hP hi hj ?_;obtain⟨i',y,_,b1,e1⟩:=bdc C B hn hP hi;obtain⟨j',z,_,b2,e2⟩:=bdc C B hn hP hj;rw[e1,e2]at e ⊢;exact Bv b1 b2 e
 ·have jm:j<=m:=by clear V;split at hj<;>lia
  have im:=Nat.lt_of_lt_of_le hij jm;rcases V i (Nat.lt_trans hij hjn) with ⟨c1,e1⟩|⟨c1,_⟩
  ·rcases V j hjn with ⟨c2,e2⟩|⟨c2,j',w1,w2,w3,e2⟩
   ·rw[e1,e2];exact qI (Bl B c1) (Bl B c2) (C.xs i j hij c2)
   ·have jl:j'<m:=Nat.lt_of_le_of_lt (Nat.le_add_right _ _) w2;have ij:i<=j':=by
     have b0:b=0:=by clear V;split at hj<;>lia
     clear V;lia
    rw[e1,e2];rcases Nat.lt_or_eq_of_le ij with k|k
    ·exact qI (Bl B c1) (Bh C B jl) (C.xs i j' k jl)
    ·subst k;exact AX (C.lh i c1)
  ·exact absurd im (Nat.not_lt.mpr c1)
 ·rcases V j hj with ⟨c2,e2⟩|⟨c2,j',w1,w2,w3,e2⟩
  ·clear V;split at hi<;>lia
  ·have jl:j'<m:=Nat.lt_of_le_of_lt (Nat.le_add_right _ _) w2;obtain⟨i',y,il,ji,b1,e1⟩:∃i' y,i'<m/\j'<i'/\(-100<=y/\y<=100)/\P i=(x i',y):=by
    rcases V i (Nat.lt_trans hij hj) with ⟨c1,e1⟩|⟨c1,i',q1,q2,q3,e1⟩
    ·exact⟨i,_,c1,by clear V;split at hi<;>lia,Bl B c1,e1⟩
    ·have il:=Nat.lt_of_le_of_lt (Nat.le_add_right _ _) q2;exact⟨i',_,il,by clear V;lia,Bh C B il,e1⟩
   rw[e1,e2];exact qI (Bh C B jl) b1 (C.xs j' i' ji il)
 ·rcases dW C hn hP hk with ⟨c,e1,e2⟩|⟨c,c0,e1,e2⟩|⟨s,c,cs,e1,e2⟩|⟨c,c0,e1,e2⟩<;>rw[e1,e2]at bt ⊢ <;>
   rcases V r hr with ⟨c2,e3⟩|⟨c2,j,w1,w2,w3,e3⟩<;>rw[e3]at bt ⊢
  ·obtain⟨k0,k1⟩:=g9 c;obtain⟨z1,z2,z3,z4⟩:=dU (C.xs k (k+1) (Nat.lt_succ_self k) k1) (Bl B k0) (Bl B c2) (Bl B k1) bt;rcases lE (cg C k0 z1) (cg C c2 z2) with q|q<;>subst q
   ·exact absurd (z3 rfl) (Int.lt_irrefl _)
   ·exact absurd (z4 rfl) (Int.lt_irrefl _)
  ·obtain⟨k0,k1⟩:=g9 c;have jl:j<m:=Nat.lt_of_le_of_lt (Nat.le_add_right _ _) w2;have x1:=C.xs k (k+1) (Nat.lt_succ_self k) k1;obtain⟨z1,z2,z3,z4⟩:=dU x1 (Bl B k0) (Bh C B jl) (Bl B k1) bt;rcases lE (cg C k0 z1) (cg C jl z2) with q|q<;>subst q
   ·exact wQ x1 (z3 rfl)
   ·exact absurd (z4 rfl) (Int.not_lt.mpr (Int.le_of_lt (C.lh _ jl)))
  ·have ml:m-1<m:=Nat.sub_lt (Nat.lt_of_lt_of_le (by decide) m2) (by decide)
   obtain⟨z1,z2,z3⟩:=fq (C.lh _ ml) (Bl B ml) (Bl B c2) (Bh C B ml) bt;have q:=Nat.le_antisymm (cg C c2 (Int.le_of_eq z1)) (cg C ml (Int.le_of_eq z1.symm));subst q;exact absurd z2 (Int.lt_irrefl _)
  ·have ml:m-1<m:=Nat.sub_lt (Nat.lt_of_lt_of_le (by decide) m2) (by decide)
   have jl:j<m:=Nat.lt_of_le_of_lt (Nat.le_add_right _ _) w2;obtain⟨z1,z2,z3⟩:=fq (C.lh _ ml) (Bl B ml) (Bh C B jl) (Bh C B ml) bt;have q:=Nat.le_antisymm (cg C jl (Int.le_of_eq z1)) (cg C ml (Int.le_of_eq z1.symm));subst q;exact absurd z3 (Int.lt_irrefl _)
  ·obtain⟨k0,k1⟩:=h_ m2 cs;have x1:=C.xs s (s+1) (Nat.lt_succ_self s) k1;obtain⟨z1,z2,z3,z4⟩:=dU x1 (Bu C B k0) (Bl B c2) (Bu C B k1) bt.symm;rcases lE (cg C k0 z1) (cg C c2 z2) with q|q<;>subst q
   ·exact absurd (z3 rfl) (Int.not_lt.mpr (fu C k0).1)
   ·exact vG x1 (z4 rfl)
  ·obtain⟨k0,k1⟩:=h_ m2 cs;have jl:j<m:=Nat.lt_of_le_of_lt (Nat.le_add_right _ _) w2;have x1:=C.xs s (s+1) (Nat.lt_succ_self s) k1;obtain⟨z1,z2,z3,z4⟩:=dU x1 (Bu C B k0) (Bh C B jl) (Bu C B k1) bt.symm;rcases lE (cg C k0 z1) (cg C jl z2) with q|q<;>subst q
   ·exact absurd (z3 rfl) (Int.not_lt.mpr (Int.le_of_eq (Bf C w1 w2).symm))
   ·exact absurd (z4 rfl) (Int.not_lt.mpr (fu C k1).2)
  ·have ml:0<m:=Nat.lt_of_lt_of_le (by decide) m2
   obtain⟨z1,z2,z3⟩:=fq (C.lh _ ml) (Bl B ml) (Bl B c2) (Bh C B ml) bt.symm;have q:=Nat.le_antisymm (cg C c2 (Int.le_of_eq z1)) (cg C ml (Int.le_of_eq z1.symm));subst q;exact absurd z2 (Int.lt_irrefl _)
  ·have ml:0<m:=Nat.lt_of_lt_of_le (by decide) m2
   have jl:j<m:=Nat.lt_of_le_of_lt (Nat.le_add_right _ _) w2;obtain⟨z1,z2,z3⟩:=fq (C.lh _ ml) (Bl B ml) (Bh C B jl) (Bh C B ml) bt.symm;have q:=Nat.le_antisymm (cg C jl (Int.le_of_eq z1)) (cg C ml (Int.le_of_eq z1.symm));subst q;exact absurd z3 (Int.lt_irrefl _)
theorem zn{p q c:Pt}(hc:bg p q c)(h:p.1<q.1):p.1<c.1/\c.1<q.1:=by
 obtain⟨s,t,hs,ht,e1,e2⟩:=hc;exact gN hs ht e1 h
theorem y_{p q c:Pt}(hc:bg p q c)(h:p.2<q.2):p.2<c.2/\c.2<q.2:=by
 obtain⟨s,t,hs,ht,e1,e2⟩:=hc;exact gN hs ht e2 h
theorem y6{p q c:Pt}(hc:bg p q c)(h:p.1=q.1):c.1=p.1:=by
 obtain⟨s,t,hs,ht,e1,e2⟩:=hc;rw[<-h]at e1
 have:(s+t)*(c.1-p.1)=0:=by grind
 rcases Int.mul_eq_zero.mp this with z|z<;>lia
theorem oI{p q c:Pt}(hc:bg p q c)(hp:-100<=p.2/\p.2<=100)(hq:-100<=q.2/\q.2<=100):-100<=c.2/\c.2<=100:=by
 obtain⟨s,t,hs,ht,e1,e2⟩:=hc;exact o4 hs ht e2 hp hq
theorem yj{x0 x1 l0 l1 u0 u1:Int}{c:Pt}(hx:x0<x1)(h0:l0<=u0)(h1:l1<=u1)(hs:l0+l1<u0+u1)(hc:bg (x0,l0) (x1,l1) c):0<turn (x1,u1) (x0,u0) c:=by
 obtain⟨s,t,hs,ht,e1,e2⟩:=hc;have e:=qQ e1 e2 (x1,u1) (x0,u0);have k1:turn (x1,u1) (x0,u0) (x0,l0)=(x1-x0)*(u0-l0):=by unfold turn;grind
 have k2:turn (x1,u1) (x0,u0) (x1,l1)=(x1-x0)*(u1-l1):=by unfold turn;grind
 rw[k1,k2]at e;refine bC (show 0<s+t by lia) ?_
 rw[e];have a1:=Int.mul_nonneg (show 0<=x1-x0 by lia) (show 0<=u0-l0 by lia)
 have a2:=Int.mul_nonneg (show 0<=x1-x0 by lia) (show 0<=u1-l1 by lia)
 have g1:=Int.mul_nonneg (Int.le_of_lt hs) a1;have g2:=Int.mul_nonneg (Int.le_of_lt ht) a2;by_cases c:l0<u0
 ·have:=Int.mul_pos hs (Int.mul_pos (show 0<x1-x0 by lia) (show 0<u0-l0 by lia));lia
 ·have:=Int.mul_pos ht (Int.mul_pos (show 0<x1-x0 by lia) (show 0<u1-l1 by lia));lia
theorem xr{x0 x1 l0 l1 u0 u1:Int}{c:Pt}(hx:x0<x1)(h0:l0<=u0)(h1:l1<=u1)(hs:l0+l1<u0+u1)(hc:bg (x1,u1) (x0,u0) c):0<turn (x0,l0) (x1,l1) c:=by
 obtain⟨s,t,hs,ht,e1,e2⟩:=hc;have e:=qQ e1 e2 (x0,l0) (x1,l1);have k1:turn (x0,l0) (x1,l1) (x0,u0)=(x1-x0)*(u0-l0):=by unfold turn;grind
 have k2:turn (x0,l0) (x1,l1) (x1,u1)=(x1-x0)*(u1-l1):=by unfold turn;grind
 rw[k1,k2]at e;refine bC (show 0<s+t by lia) ?_
 rw[e];have a1:=Int.mul_nonneg (show 0<=x1-x0 by lia) (show 0<=u0-l0 by lia)
 have a2:=Int.mul_nonneg (show 0<=x1-x0 by lia) (show 0<=u1-l1 by lia)
 have g1:=Int.mul_nonneg (Int.le_of_lt ht) a1;have g2:=Int.mul_nonneg (Int.le_of_lt hs) a2;by_cases c:l0<u0
 ·have:=Int.mul_pos ht (Int.mul_pos (show 0<x1-x0 by lia) (show 0<u0-l0 by lia));lia
 ·have:=Int.mul_pos hs (Int.mul_pos (show 0<x1-x0 by lia) (show 0<u1-l1 by lia));lia
theorem vO(C:cI m a b x l h){s:Nat}(hs:s+1<m):l s+l (s+1)<up m a b l h s+up m a b l h (s+1):=by
 have u0:=fu C (show s<m by lia)
 have u1:=fu C hs;have n3:=C.n3;have a1:=C.a1;have b1:=C.b1;by_cases c:(s=0/\a=1)
 ·have:=io C hs (.inl (by lia)) (by lia);lia
 ·have:=io C (show s<m by lia) (by lia) (.inl (by lia));lia
theorem Bw(C:cI m a b x l h)(B:Bdl m l h)(hn:n=2*m-a-b)(hP:∀i,i<n->P i=bO m b x l h i){k0:Nat}(h0:k0<n){c:Pt}(hc:bg (P k0) (P (nx n k0)) c){k:Nat}(hk:k<n)(ne:k≠k0)
  (bt:Btw (Xf 1000 1 (P k)) (Xf 1000 1 c) (Xf 1000 1 (P (nx n k)))):0<turn (P k) (P (nx n k)) c:=by
 have m2:=C.m2;have o0:0<m:=Nat.lt_of_lt_of_le (by decide) m2
 have o1:m-1<m:=Nat.sub_lt o0 (by decide)
 have om:x 0<x (m-1):=C.xs _ _ (by clear bt hc;lia) o1
 obtain⟨c1,c2⟩:=c;rcases dW C hn hP h0 with ⟨d,f1,f2⟩|⟨d,d0,f1,f2⟩|⟨s0,d,ds,f1,f2⟩|⟨d,d0,f1,f2⟩<;>rw[f1,f2]at hc
 ·obtain⟨g0,g1⟩:=g9 d;obtain⟨x0,x1⟩:x k0<c1/\c1<x (k0+1):=zn hc (C.xs k0 (k0+1) (Nat.lt_succ_self _) g1);have cb:-100<=c2/\c2<=100:=oI hc (Bl B g0) (Bl B g1);rcases dW C hn hP hk with ⟨e,e1,e2⟩|⟨e,e0,e1,e2⟩|⟨s,e,es,e1,e2⟩|⟨e,e0,e1,e2⟩<;>rw[e1,e2]at bt ⊢
  ·obtain⟨i0,i1⟩:=g9 e;obtain⟨z1,z2,_⟩:=dU (C.xs k (k+1) (Nat.lt_succ_self _) i1) (Bl B i0) cb (Bl B i1) bt;exact absurd (tP (fw C g0 (Int.lt_of_lt_of_le x0 z2)) (fw C i0 (Int.lt_of_le_of_lt z1 x1))) ne
  ·obtain⟨z1,_⟩:=fq (C.lh _ o1) (Bl B o1) cb (Bh C B o1) bt;rw[z1]at x1;exact absurd (fw C o1 x1) (Nat.not_lt.mpr (Nat.le_sub_one_of_lt g1))
  ·obtain⟨i0,i1⟩:=h_ m2 es;have xx:=C.xs s (s+1) (Nat.lt_succ_self _) i1;obtain⟨z1,z2,_⟩:=dU xx (Bu C B i0) cb (Bu C B i1) bt.symm;have q:=tP (fw C g0 (Int.lt_of_lt_of_le x0 z2)) (fw C i0 (Int.lt_of_le_of_lt z1 x1));subst q;exact yj xx (fu C i0).1 (fu C i1).1 (vO C i1) hc
  ·obtain⟨z1,_⟩:=fq (C.lh _ o0) (Bl B o0) cb (Bh C B o0) bt.symm;rw[z1]at x0;exact absurd (fw C g0 x0) (Nat.not_lt_zero _)
 ·have cx:c1=x (m-1):=y6 hc rfl;obtain⟨y0,y1⟩:l (m-1)<c2/\c2<h (m-1):=y_ hc (C.lh _ o1);have cb:-100<=c2/\c2<=100:=oI hc (Bl B o1) (Bh C B o1);subst cx;rcases dW C hn hP hk with ⟨e,e1,e2⟩|⟨e,e0,e1,e2⟩|⟨s,e,es,e1,e2⟩|⟨e,e0,e1,e2⟩<;>rw[e1,e2]at bt ⊢
  ·obtain⟨i0,i1⟩:=g9 e;obtain⟨z1,z2,z3,z4⟩:=dU (C.xs k (k+1) (Nat.lt_succ_self _) i1) (Bl B i0) cb (Bl B i1) bt;have q:=Nat.le_antisymm (cg C o1 z2) (Nat.le_sub_one_of_lt i1);rw[<-q]at z4;exact absurd (z4 rfl) (Int.not_lt.mpr (Int.le_of_lt y0))
  ·exact absurd (e.trans d.symm) ne
  ·obtain⟨i0,i1⟩:=h_ m2 es;have xx:=C.xs s (s+1) (Nat.lt_succ_self _) i1;obtain⟨z1,z2,z3,z4⟩:=dU xx (Bu C B i0) cb (Bu C B i1) bt.symm;have q:=Nat.le_antisymm (cg C o1 z2) (Nat.le_sub_one_of_lt i1);rw[q]at z4 ⊢;exact vG xx (z4 rfl)
  ·obtain⟨z1,_⟩:=fq (C.lh _ o0) (Bl B o0) cb (Bh C B o0) bt.symm;exact absurd om (Int.not_lt.mpr (Int.le_of_eq z1))
 ·obtain⟨g0,g1⟩:=h_ m2 ds;have gg:=C.xs s0 (s0+1) (Nat.lt_succ_self _) g1;obtain⟨x0,x1⟩:x s0<c1/\c1<x (s0+1):=zn hc.swap gg;have cb:-100<=c2/\c2<=100:=oI hc (Bu C B g1) (Bu C B g0);rcases dW C hn hP hk with ⟨e,e1,e2⟩|⟨e,e0,e1,e2⟩|⟨s,e,es,e1,e2⟩|⟨e,e0,e1,e2⟩<;>rw[e1,e2]at bt ⊢
  ·obtain⟨i0,i1⟩:=g9 e;have xx:=C.xs k (k+1) (Nat.lt_succ_self _) i1;obtain⟨z1,z2,_⟩:=dU xx (Bl B i0) cb (Bl B i1) bt;have q:=tP (fw C g0 (Int.lt_of_lt_of_le x0 z2)) (fw C i0 (Int.lt_of_le_of_lt z1 x1));subst q;exact xr xx (fu C i0).1 (fu C i1).1 (vO C i1) hc
  ·obtain⟨z1,_⟩:=fq (C.lh _ o1) (Bl B o1) cb (Bh C B o1) bt;rw[z1]at x1;exact absurd (fw C o1 x1) (Nat.not_lt.mpr (Nat.le_sub_one_of_lt g1))
  ·obtain⟨i0,i1⟩:=h_ m2 es;have xx:=C.xs s (s+1) (Nat.lt_succ_self _) i1;obtain⟨z1,z2,_⟩:=dU xx (Bu C B i0) cb (Bu C B i1) bt.symm;have q:=tP (fw C g0 (Int.lt_of_lt_of_le x0 z2)) (fw C i0 (Int.lt_of_le_of_lt z1 x1));clear bt hc;lia
  ·obtain⟨z1,_⟩:=fq (C.lh _ o0) (Bl B o0) cb (Bh C B o0) bt.symm;rw[z1]at x0;exact absurd (fw C g0 x0) (Nat.not_lt_zero _)
 ·have cx:c1=x 0:=y6 hc rfl;obtain⟨y0,y1⟩:l 0<c2/\c2<h 0:=y_ hc.swap (C.lh _ o0);have cb:-100<=c2/\c2<=100:=oI hc (Bh C B o0) (Bl B o0);subst cx;rcases dW C hn hP hk with ⟨e,e1,e2⟩|⟨e,e0,e1,e2⟩|⟨s,e,es,e1,e2⟩|⟨e,e0,e1,e2⟩<;>rw[e1,e2]at bt ⊢
  ·obtain⟨i0,i1⟩:=g9 e;have xx:=C.xs k (k+1) (Nat.lt_succ_self _) i1;obtain⟨z1,z2,z3,z4⟩:=dU xx (Bl B i0) cb (Bl B i1) bt;have q:=Nat.le_zero.mp (cg C i0 z1);subst q;exact wQ xx (z3 rfl)
  ·obtain⟨z1,_⟩:=fq (C.lh _ o1) (Bl B o1) cb (Bh C B o1) bt;exact absurd om (Int.not_lt.mpr (Int.le_of_eq z1.symm))
  ·obtain⟨i0,i1⟩:=h_ m2 es;have xx:=C.xs s (s+1) (Nat.lt_succ_self _) i1;obtain⟨z1,z2,z3,z4⟩:=dU xx (Bu C B i0) cb (Bu C B i1) bt.symm;have q:=Nat.le_zero.mp (cg C i0 z1);subst q
   have:=z3 rfl
   rw[Bf C (Nat.le_of_eq d0) (by have:=C.b1;clear bt hc;lia)]at this
   exact absurd this (Int.not_lt.mpr (Int.le_of_lt y1))
  ·exact absurd (e.trans d.symm) ne
end
end FF
end
section
namespace FF
structure GF(cs:List Pt):Prop where
 fe:aZ cs
theorem u4{m:Nat}{x l h:Nat->Int}{af:Int}(m2:2<=m)(m6:m<=6)(xs:∀i j,i<j->j<m->x i<x j)(lh:∀i,i<m->l i<h i):
  GF (joined (loL m x l) (loL m x h) af):=by
 obtain⟨a,b,ha,hb,n3,e⟩:=ip (x:=x) (l:=l) (h:=h) (af:=af) m2;rw[e];have C:cI m a b x l h:=⟨m2,m6,ha,hb,n3,xs,lh⟩;have hl:(loL m x l++(((loL m x h).drop a).take (m-a-b)).reverse).length=2*m-a-b:=by
  rw[Z5,aK,ZA,gi (by lia)];lia
 refine⟨⟨by rw[hl];exact n3,by rw[hl];lia,?_⟩⟩
 rw[hl];exact nP C rfl (fun i hi=>jS C hi)
theorem re:((Z4 3).all fun i=>(Z4 3).all fun j=>jT (du (5+(i:Int)) (6+(j:Int))))=true:=by decide +kernel
theorem vz(c:Int):GF (spiral c):=by
 have h:=re;simp only[Y5,Zt]at h;have q:=h (c%3).toNat (by lia) (c/3%3).toNat (by lia)
 have e1:(((c%3).toNat:Nat):Int)=c%3:=by lia
 have e2:(((c/3%3).toNat:Nat):Int)=c/3%3:=by lia
 rw[e1,e2]at q;exact⟨jg q⟩
theorem GF.flat{cs:List Pt}(G:GF cs)(c:Int):GF (flat cs c):=by
 unfold FF.flat;have lo:=G.fe.lo;have hat:(c%cs.length).toNat<cs.length:=by
  have h1:=Int.emod_nonneg c (show (cs.length:Int)≠0 by lia)
  have h2:=Int.emod_lt_of_pos c (show (0:Int)<cs.length by lia)
  lia
 generalize (c%cs.length).toNat=t at hat;simp only
 split
 ·exact G
 ·rename_i g hg
  split
  ·exact G
  ·rename_i DU;have hm:=gl (YS hg);have k0:=Int.emod_nonneg (c/12) (show g-1≠0 by lia)
   have k1:=Int.emod_lt_of_pos (c/12) (show 0<g-1 by lia)
   have st:=fj hm.1 hm.2.1 hm.2.2 (k:=1+c/12%(g-1)) (by lia) (by lia)
   have G2:GF (cs.take t++cs.drop t):=by rw[Zk];exact G
   have hl:(cs.take t++cs.drop t).length=cs.length:=by rw[Zk]
   have a0:at' (cs.drop t++cs.take t) 0=at' cs t:=by
    rw[bf,Zp,if_pos (by lia),br,Nat.add_zero]
   have a1:at' (cs.drop t++cs.take t) (cs.length-1)=at' cs (if t=0 then cs.length-1 else t-1):=by
    rw[bf,Zp];by_cases z:t=0
    ·subst z;rw[if_pos (by lia),br,Nat.zero_add,if_pos rfl]
    ·rw[if_neg (by lia),if_neg z,bE (by lia)]
     congr 1;lia
   exact⟨G2.fe.flat (by lia) (by rw[hl,a0,a1];exact st)⟩
end FF
end
section
namespace FF
theorem pU{D y z:Int}(hD:0<D):D*y<D*z↔y<z:=⟨fun h=>Int.lt_of_mul_lt_mul_left h (by lia),fun h=>Int.mul_lt_mul_of_pos_left h hD⟩
theorem bo.congr{u v:Int}{n:Nat}{g g':Nat->Pt}(h:∀i,i<n->g' i=g i)(M:bo u v n g):bo u v n g':=by
 have n3:=M.n3;refine⟨n3,fun i j hi hj e=>M.inj i j hi hj (by rw[<-h i hi,<-h j hj];exact e),fun i j k l hij hjk hkl hl=>?_,fun k r hk hr b=>?_⟩
 ·rw[h i (by lia),h j (by lia),h k (by lia),h l hl];exact M.un i j k l hij hjk hkl hl
 ·rw[h k hk,h r hr,h _ (aH hk)]at *;exact M.N k r hk hr b
noncomputable def eB(cs:List Pt):Prop:=∃u v,bo u v cs.length (at' cs)
theorem pT{A B:List Pt}{i:Nat}(hA:A.length<(A++B).length)(hi:i<(A++B).length):at' (B++A) i=at' (A++B) (bH (A++B).length A.length i):=by
 rw[Z5]at *
 unfold bH;rw[bf];by_cases c:i<B.length
 ·rw[if_pos c,if_pos (by lia),bf,if_neg (by lia)];congr 1;lia
 ·rw[if_neg c,if_neg (by lia),bf,if_pos (by lia)];congr 1;lia
theorem eB.rot{A B:List Pt}(M:eB (A++B)):eB (B++A):=by
 obtain⟨u,v,M⟩:=M;by_cases c:A.length<(A++B).length
 ·refine⟨u,v,?_⟩;rw[show (B++A).length=(A++B).length by rw[Z5,Z5];lia]
  exact (M.rot c).congr fun i hi=>pT c hi
 ·have:B=[]:=by
   rw[Z5]at c;exact Yd (by lia)
  subst this;rw[ZJ]at M;exact⟨u,v,M⟩
theorem eB.turnBy{A:List Pt}(M:eB A)(t:Nat):eB (A.drop t++A.take t):=by
 rw[<-Zk t A]at M;exact M.rot
theorem dI(T:Tn)(a b c:Pt):turn (T.led a) (T.led b) (T.led c)=T.det*turn a b c:=by unfold turn Tn.led Tn.det;grind
theorem lQ(T:Tn)(u v:Int)(p:Pt):Xf (u*T.d-v*T.c) (v*T.a-u*T.b) (T.led p)=T.det*Xf u v p+Xf (u*T.d-v*T.c) (v*T.a-u*T.b) (T.e,T.f):=by unfold Xf Tn.led Tn.det;grind
theorem vk(u v:Int)(p:Pt):Xf (-u) (-v) p=- Xf u v p:=by unfold Xf;grind
theorem bo.ord{u v u' v':Int}{n:Nat}{g g':Nat->Pt}(M:bo u v n g)(o:∀i j,i<n->j<n->(Xf u v (g i)<Xf u v (g j)↔Xf u' v' (g' i)<Xf u' v' (g' j)))(t:∀i j k,0<turn (g i) (g j) (g k)->0<turn (g' i) (g' j) (g' k)):bo u' v' n g':=by
 refine⟨M.n3,fun i j hi hj e=>M.inj i j hi hj ?_,fun i j k l hij hjk hkl hl=>?_,fun k r hk hr b=>?_⟩
 ·have h1:=o i j hi hj;have h2:=o j i hj hi;have a1:¬Xf u v (g i)<Xf u v (g j):=fun z=>by have:=h1.mp z;lia
  have a2:¬Xf u v (g j)<Xf u v (g i):=fun z=>by have:=h2.mp z;lia
  lia
 ·have:=M.un i j k l hij hjk hkl hl
  rw[o i j (by lia) (by lia),o k j (by lia) (by lia),o i l (by lia) hl,o k l (by lia) hl,o j i (by lia) (by lia),o j k (by lia) (by lia),o l i hl (by lia),o l k hl (by lia)]at this
  exact this
 ·refine t _ _ _ (M.N k r hk hr ?_);unfold Btw at *
  rw[o k r hk hr,o r _ hr (aH hk),o _ r (aH hk) hr,o r k hr hk];exact b
theorem bo.rev{u v:Int}{n:Nat}{g g':Nat->Pt}(M:bo u v n g)(u' v':Int)(o:∀i j,i<n->j<n->(Xf u v (g i)<Xf u v (g j)↔Xf u' v' (g' i)<Xf u' v' (g' j)))(t:∀i j k,0<turn (g i) (g j) (g k)->turn (g' i) (g' j) (g' k)<0):bo u' v' n (fun i=>g' (n-1-i)):=by
 have n3:=M.n3;refine⟨n3,fun i j hi hj e=>?_,fun i j k l hij hjk hkl hl=>?_,fun k r hk hr b=>?_⟩
 ·have h1:=o (n-1-i) (n-1-j) (by lia) (by lia)
  have h2:=o (n-1-j) (n-1-i) (by lia) (by lia)
  have a1:¬Xf u v (g (n-1-i))<Xf u v (g (n-1-j)):=fun z=>by have:=h1.mp z;lia
  have a2:¬Xf u v (g (n-1-j))<Xf u v (g (n-1-i)):=fun z=>by have:=h2.mp z;lia
  have:=M.inj (n-1-i) (n-1-j) (by lia) (by lia) (by lia)
  lia
 ·have:=M.un (n-1-l) (n-1-k) (n-1-j) (n-1-i) (by lia) (by lia) (by lia) (by lia)
  rw[o (n-1-l) (n-1-k) (by lia) (by lia),o (n-1-j) (n-1-k) (by lia) (by lia),o (n-1-l) (n-1-i) (by lia) (by lia),o (n-1-j) (n-1-i) (by lia) (by lia),o (n-1-k) (n-1-l) (by lia) (by lia),o (n-1-k) (n-1-j) (by lia) (by lia),o (n-1-i) (n-1-l) (by lia) (by lia),o (n-1-i) (n-1-j) (by lia) (by lia)]at this
  exact⟨fun ⟨z1,z2,z3,z4⟩=>this.2 ⟨z4,z2,z3,z1⟩,fun ⟨z1,z2,z3,z4⟩=>this.1 ⟨z4,z2,z3,z1⟩⟩
 ·have hk':=aH hk;have e:nx n (n-1-nx n k)=n-1-k:=by unfold nx;split<;>split<;>lia
  have:=M.N (n-1-nx n k) (n-1-r) (by lia) (by lia)
  rw[e]at this
  have:=t _ _ _ (this (by
   unfold Btw at *
   rw[o _ (n-1-r) (by lia) (by lia),o (n-1-r) _ (by lia) (by lia),o _ (n-1-r) (by lia) (by lia),o (n-1-r) _ (by lia) (by lia)]
   lia))
  rw[jI]at this;lia
theorem eB.led{cs:List Pt}(M:eB cs){T:Tn}(h:0<T.det):eB (cs.map T.led):=by
 obtain⟨u,v,M⟩:=M;refine⟨u*T.d-v*T.c,v*T.a-u*T.b,?_⟩;rw[Z7];refine bo.congr (g:=fun i=>T.led (at' cs i)) (fun i hi=>dS hi) (M.ord (fun i j hi hj=>?_) fun i j k p=>by rw[dI];exact Int.mul_pos h p)
 rw[lQ,lQ];generalize Xf u v (at' cs i)=p;generalize Xf u v (at' cs j)=q
 have:=(pU h (y:=p) (z:=q))
 rw[<-this];lia
theorem eB.ledR{cs:List Pt}(M:eB cs){T:Tn}(h:T.det<0):eB (cs.map T.led).reverse:=by
 obtain⟨u,v,M⟩:=M;refine⟨-(u*T.d-v*T.c),-(v*T.a-u*T.b),?_⟩;rw[ZA,Z7];refine bo.congr (g:=fun i=>T.led (at' cs (cs.length-1-i))) (fun i hi=>?_) (M.rev (g':=fun i=>T.led (at' cs i)) _ _ (fun i j hi hj=>?_) fun i j k p=>?_)
 ·rw[jo (by rw[Z7];exact hi),Z7,dS (by lia)]
 ·rw[vk,vk,lQ,lQ];generalize Xf u v (at' cs i)=p;generalize Xf u v (at' cs j)=q
  have:=(pU (show 0 < -T.det by lia) (y:=p) (z:=q))
  rw[<-this,Int.neg_mul,Int.neg_mul];lia
 ·rw[dI];exact Int.mul_neg_of_neg_of_pos h p
theorem wo{m a b:Nat}{x l h:Nat->Int}{cs:List Pt}(C:cI m a b x l h)(B:Bdl m l h)(hn:cs.length=2*m-a-b)(hP:∀i,i<cs.length->at' cs i=bO m b x l h i)(F:aZ cs)(nr:∀p∈cs,Nr p)(c:Int):eB (flat cs c):=by
 have M:=n6 C B hn hP;have M0:eB cs:=⟨_,_,M⟩;have nrF:=rJ (c:=c) nr (by have:=F.lo;lia)
 have FF:=(GF.flat ⟨F⟩ c).fe
 revert nrF FF
 unfold FF.flat;have lo:=F.lo;have hat:(c%cs.length).toNat<cs.length:=by
  have h1:=Int.emod_nonneg c (show (cs.length:Int)≠0 by lia)
  have h2:=Int.emod_lt_of_pos c (show (0:Int)<cs.length by lia)
  lia
 generalize (c%cs.length).toNat=t at hat;simp only
 split
 ·intros;exact M0
 ·rename_i g hg
  split
  ·intros;exact M0
  ·rename_i DU;have hm:=gl (YS hg);have k0:=Int.emod_nonneg (c/12) (show g-1≠0 by lia)
   have k1:=Int.emod_lt_of_pos (c/12) (show 0<g-1 by lia)
   have st:=fj hm.1 hm.2.1 hm.2.2 (k:=1+c/12%(g-1)) (by lia) (by lia)
   have a0:at' (cs.drop t++cs.take t) 0=at' cs t:=by
    rw[bf,Zp,if_pos (by lia),br,Nat.add_zero]
   have a1:at' (cs.drop t++cs.take t) (cs.length-1)=at' cs (if t=0 then cs.length-1 else t-1):=by
    rw[bf,Zp];by_cases z:t=0
    ·subst z;rw[if_pos (by lia),br,Nat.zero_add,if_pos rfl]
    ·rw[if_neg (by lia),if_neg z,bE (by lia)]
     congr 1;lia
   generalize ((at' cs (if t=0 then cs.length-1 else t-1)).1+((at' cs t).1-(at' cs (if t=0 then cs.length-1 else t-1)).1)/g*(1+c/12%(g-1)),(at' cs (if t=0 then cs.length-1 else t-1)).2+((at' cs t).2-(at' cs (if t=0 then cs.length-1 else t-1)).2)/g*(1+c/12%(g-1)))=d at *
   intro nrF FF;have lt:(cs.take t).length=t:=by rw[Za];lia
   have ld:(cs.drop t).length=cs.length-t:=Zp;have MR:bo 1000 1 cs.length (at' (cs.drop t++cs.take t)):=by
    have hl:(cs.take t++cs.drop t).length=cs.length:=by rw[Zk]
    have:=(M.rot (s:=t) hat)
    refine this.congr fun i hi=>?_
    have:=pT (A:=cs.take t) (B:=cs.drop t) (i:=i) (by rw[hl];lia) (by rw[hl];exact hi)
    rw[Zk,lt]at this;exact this
   have ei:∀i,i<cs.length->at' (cs.drop t++cs.take t) i=at' cs (bH cs.length t i):=fun i hi=>by
    have hl:(cs.take t++cs.drop t).length=cs.length:=by rw[Zk]
    have:=pT (A:=cs.take t) (B:=cs.drop t) (i:=i) (by rw[hl];lia) (by rw[hl];exact hi)
    rw[Zk,lt]at this;exact this
   have mem:∀i,i<cs.length->at' (cs.drop t++cs.take t) i∈cs:=fun i hi=>by rw[ei i hi];exact cO (ff hat hi)
   have I:=MR.ins (c:=d) (by rw[a0,a1];exact st) (fun i hi e=>?_) (fun k hk bt=>?_)
   ·have I2:eB ((d::cs.drop t)++cs.take t):=by
     refine⟨1000,1,?_⟩;have el:((d::cs.drop t)++cs.take t).length=cs.length+1:=by rw[Z5,Zd,lt,ld];lia
     rw[el];refine I.congr fun i hi=>?_
     match i,hi with
     |0,_=>rfl
     |i+1,_=>rfl
    have:=I2.rot
    rw[Zf];exact this
   ·
    have m1:=mem i hi;have n1:=nr _ m1;have n2:=nrF d (XG _ (Zb _ (Zg.mpr rfl)));have ep:d=at' (cs.drop t++cs.take t) i:=by
     unfold Nr at n1 n2;unfold Xf at e;exact Yy (by lia) (by lia)
    have FR:aZ (d::(cs.drop t++cs.take t)):=by
     have:=FF
     rw[Zf]at this;exact this.rot
    have:=FR.ok.inj 0 (i+1) (by rw[Zd];lia) (by rw[Zd,Z5,lt,ld];lia) ep
    lia
   ·rw[ei k (by lia),ei (k+1) hk]at bt ⊢
    have hkk:=ff hat (show k<cs.length by lia)
    have e2:bH cs.length t (k+1)=nx cs.length (bH cs.length t k):=by
     rw[<-gb hat (by lia)];congr 1;unfold nx;rw[if_neg (by lia)]
    rw[e2]at bt ⊢;have hk0:(if t=0 then cs.length-1 else t-1)<cs.length:=by split<;>lia
    have en:nx cs.length (if t=0 then cs.length-1 else t-1)=t:=by unfold nx;split<;>split<;>lia
    refine Bw C B hn hP hk0 (c:=d) (by rw[en];exact st) hkk (fun z=>?_) bt
    unfold bH at z
    split at z<;>split at z<;>lia
end FF
end
section
namespace FF
noncomputable def c7(a b c p:Pt):Bool:=decide (0<=turn a b p)&&decide (0<=turn b c p)&&decide (0<=turn c a p)
noncomputable def gF(cs:List Pt)(a b c:Pt):Bool:=decide (0<turn a b c)&&!((cs.filter fun p=>!(p==a||p==b||p==c)).any (c7 a b c))
noncomputable def eQ(cs:List Pt)(k:Nat):Bool:=gF cs (at' cs (pvN cs.length (pvN cs.length k))) (at' cs (pvN cs.length k)) (at' cs k)
noncomputable def fV(cs:List Pt):Option Nat:=(Z4 cs.length).find? (eQ cs)
inductive bF:List Pt->List (Pt×Pt×Pt)->Prop
 |done {a b c:Pt} (h:0<turn a b c):bF [a,b,c] [(a,b,c)]
 |cut {cs:List Pt} {k:Nat} {ts:List (Pt×Pt×Pt)} (n4:4<=cs.length) (f:fV cs=some k) (r:bF (cs.filter fun p=>p != at' cs (pvN cs.length k)) ts):
  bF cs ((at' cs (pvN cs.length (pvN cs.length k)),at' cs (pvN cs.length k),at' cs k)::ts)
theorem qs{cs:List Pt}{p:Pt}(h:p∈cs):∃t,t<cs.length/\at' cs t=p:=by
 obtain⟨t,ht,e⟩:=VC.mp h;refine⟨t,ht,?_⟩;unfold at';rw[Z2,Z3 ht];exact e
noncomputable def fh(cs:List Pt):Prop:=∀i j,i<cs.length->j<cs.length->at' cs i=at' cs j->i=j
theorem lN{a b c p:Pt}:c7 a b c p=true↔cK a b c p:=by unfold c7 cK;simp[and_assoc]
theorem oi{cs:List Pt}(D:fh cs){k:Nat}(hk:k<cs.length):eQ cs k=true↔jN cs.length (at' cs) (pvN cs.length (pvN cs.length k)):=by
 have hb:=da hk;have ha:=da hb;unfold eQ gF jN;rw[fM hb,fM hk,Zc,decide_eq_true_eq,Ym,U6];constructor
 ·rintro⟨h1,h2⟩;refine⟨h1,fun t tn t0 t1 t2 z=>?_⟩;refine h2 (at' cs t) ?_ (lN.mpr z);rw[ZG];refine⟨cO tn,?_⟩;simp only[Ym,Wg,YW,ne_eq];exact⟨⟨fun e=>t0 (D _ _ tn ha e),fun e=>t1 (D _ _ tn hb e)⟩,fun e=>t2 (D _ _ tn hk e)⟩
 ·rintro⟨h1,h2⟩;refine⟨h1,fun p hp z=>?_⟩;rw[ZG]at hp;obtain⟨hm,hp⟩:=hp;obtain⟨t,tn,rfl⟩:=qs hm;simp only[Ym,Wg,YW,ne_eq]at hp;exact h2 t tn (fun e=>hp.1.1 (by rw[e])) (fun e=>hp.1.2 (by rw[e])) (fun e=>hp.2 (by rw[e])) (lN.mp z)
theorem lC{cs:List Pt}(D:fh cs){b:Nat}(hb:b<cs.length):(cs.filter fun p=>p != at' cs b)=cs.take b++cs.drop (b+1):=by
 have e:cs=cs.take b++(at' cs b::cs.drop (b+1)):=by
  have h1:cs.drop b=at' cs b::cs.drop (b+1):=by
   rw[X9 hb];congr 1;unfold at';rw[Z2,Z3 hb];rfl
  rw[<-h1,Zk]
 have lt:(cs.take b).length=b:=by rw[Za];lia
 have f1:(cs.take b).filter (fun p=>p != at' cs b)=cs.take b:=by
  rw[WB];intro p hp;obtain⟨t,tn,rfl⟩:=qs hp;rw[lt]at tn;rw[bE tn];simp only[bne_iff_ne,ne_eq];intro e2
  have:=D _ _ (by lia) hb e2;lia
 have f2:(cs.drop (b+1)).filter (fun p=>p != at' cs b)=cs.drop (b+1):=by
  rw[WB];intro p hp;obtain⟨t,tn,rfl⟩:=qs hp;rw[Zp]at tn;rw[br];simp only[bne_iff_ne,ne_eq];intro e2
  have:=D _ _ (by lia) hb e2;lia
 have f3:(cs.take b++(at' cs b::cs.drop (b+1))).filter (fun p=>p != at' cs b)=cs.take b++cs.drop (b+1):=by
  rw[XZ,f1,List.filter_cons_of_neg (by simp),f2]
 rw[<-e]at f3;exact f3
theorem qb{cs:List Pt}{b i:Nat}(hb:b<cs.length)(hi:i+1<cs.length):at' (cs.take b++cs.drop (b+1)) i=at' cs (skp b i):=by
 have lt:(cs.take b).length=b:=by rw[Za];lia
 rw[bf,lt];unfold skp
 split
 ·rw[bE (by lia)]
 ·rw[br];congr 1;lia
theorem bo.dist{u v:Int}{cs:List Pt}(M:bo u v cs.length (at' cs)):fh cs:=fun i j hi hj e=>M.inj i j hi hj (by rw[e])
theorem len3{cs:List Pt}(h:cs.length=3):cs=[at' cs 0,at' cs 1,at' cs 2]:=by
 match cs,h with
 | [a,b,c],_=>rfl
theorem nS:∀(n:Nat) (cs:List Pt),cs.length=n->eB cs->∃ts,bF cs ts:=by
 intro n
 induction n using Nat.strongRecOn with
 |ind n ih=>
  intro cs hn hM;obtain⟨u,v,M⟩:=hM;have n3:=M.n3;have D:=M.dist;by_cases c:cs.length=3
  ·rw[c]at M
   have:=M.three
   rw[len3 c];exact⟨_,.done this⟩
  ·obtain⟨a,ha,E⟩:=M.ear;have hb:=aH ha;have hc:=aH hb;have el:eQ cs (nx cs.length (nx cs.length a))=true:=by
    rw[oi D hc,v8 hb,v8 ha];exact E
   obtain⟨k,hk⟩:∃k,fV cs=some k:=by
    cases e:fV cs with
    |some k=>exact⟨k,rfl⟩
    |none=>
     exfalso
     have:=U0.mp e _ (Zt.mpr hc)
     exact this el
   have k1:=Vo hk;have k2:=Zt.mp (Yq hk);have E2:=(oi D k2).mp k1;have hb2:=da k2;have M2:=M.cut (by lia) (da hb2) E2
   rw[fM hb2]at M2;have hf:=lC D hb2;have hl:(cs.take (pvN cs.length k)++cs.drop (pvN cs.length k+1)).length=cs.length-1:=by
    rw[Z5,Za,Zp];lia
   obtain⟨ts,ht⟩:=ih (cs.length-1) (by lia) (cs.take (pvN cs.length k)++cs.drop (pvN cs.length k+1)) hl ⟨u,v,by rw[hl];exact M2.congr fun i hi=>qb hb2 (by lia)⟩
   exact⟨_,.cut (by lia) hk (by rw[hf];exact ht)⟩
noncomputable def tri(F:Pt->Pt->Int)(t:Pt×Pt×Pt):Int:=F t.1 t.2.1+F t.2.1 t.2.2+F t.2.2 t.1
noncomputable def aO(F:Pt->Pt->Int)(ts:List (Pt×Pt×Pt)):Int:=(ts.map (tri F)).foldr (·+·) 0
theorem AK(F:Pt->Pt->Int)(hF:∀p q,F p q=- F q p){cs:List Pt}(h4:2<=cs.length){k:Nat}(hk:k<cs.length):
  cyc F cs=cyc F (cs.take (pvN cs.length k)++cs.drop (pvN cs.length k+1))+tri F (at' cs (pvN cs.length (pvN cs.length k)),at' cs (pvN cs.length k),at' cs k):=by
 have hb:=da hk;generalize eb:pvN cs.length k=b at *
 have lt:(cs.take b).length=b:=by rw[Za];lia
 have ld:(cs.drop (b+1)).length=cs.length-(b+1):=Zp;have e:cs=cs.take b++[at' cs b]++cs.drop (b+1):=by
  have h1:cs.drop b=at' cs b::cs.drop (b+1):=by
   rw[X9 hb];congr 1;unfold at';rw[Z2,Z3 hb];rfl
  rw[Zf,List.singleton_append,<-h1,Zk]
 have ne:cs.take b++cs.drop (b+1)≠[]:=fun z=>by
  have:=congrArg Xx z
  rw[Z5,lt,ld,YV]at this;lia
 have c:=qg F (A:=cs.take b) (B:=cs.drop (b+1)) (c:=at' cs b) ne;rw[<-e]at c;have l1:(cs.take b++cs.drop (b+1)).length=cs.length-1:=by rw[Z5,lt,ld];lia
 rw[l1]at c;have g1:at' (cs.drop (b+1)++cs.take b) (cs.length-1-1)=at' cs (pvN cs.length b):=by
  rw[bf,ld];unfold pvN;by_cases z:b=0
  ·rw[if_pos z,if_pos (by lia),br];congr 1;lia
  ·rw[if_neg z,if_neg (by lia),bE (by lia)];congr 1;lia
 have g2:at' (cs.drop (b+1)++cs.take b) 0=at' cs k:=by
  rw[bf,ld];unfold pvN at eb;by_cases z:k=0
  ·rw[if_pos z]at eb;rw[if_neg (by lia),bE (by lia)];congr 1;lia
  ·rw[if_neg z]at eb;rw[if_pos (by lia),br];congr 1;lia
 rw[g1,g2]at c;rw[c];unfold tri;dsimp only;rw[hF (at' cs k) (at' cs (pvN cs.length b))];lia
theorem bF.sum{F:Pt->Pt->Int}(hF:∀p q,F p q=- F q p){cs:List Pt}{ts:List (Pt×Pt×Pt)}(h:bF cs ts)(D:fh cs):cyc F cs=aO F ts:=by
 induction h with
 |done h=>
  rename_i a b c;show F a b+(F b c+F c a)=(F a b+F b c+F c a)+0;lia
 |cut n4 f r ih=>
  rename_i cs k ts;have k2:=Zt.mp (Yq f);have hb:=da k2;rw[lC D hb]at ih;have hl:(cs.take (pvN cs.length k)++cs.drop (pvN cs.length k+1)).length=cs.length-1:=by
   rw[Z5,Za,Zp];lia
  have D2:fh (cs.take (pvN cs.length k)++cs.drop (pvN cs.length k+1)):=fun i j hi hj e=>by
   rw[hl]at hi hj;rw[qb hb (by lia),qb hb (by lia)]at e
   have:=D _ _ (hG (by lia)) (hG (by lia)) e
   rcases Nat.lt_trichotomy i j with c|c|c
   ·have:=fE (b:=pvN cs.length k) c;lia
   ·exact c
   ·have:=fE (b:=pvN cs.length k) c;lia
  rw[AK F hF (by lia) k2,ih D2]
  show _=tri F _+aO F ts;lia
theorem bF.pos{cs:List Pt}{ts:List (Pt×Pt×Pt)}(h:bF cs ts):∀t∈ts,0<turn t.1 t.2.1 t.2.2:=by
 induction h with
 |done h=>intro t ht;rw[Zg]at ht;rw[ht];exact h
 |cut n4 f r ih=>
  intro t ht;rcases Zx.mp ht with rfl|q
  ·have k1:=Vo f;unfold eQ gF at k1;rw[Zc,decide_eq_true_eq]at k1;exact k1.1
  ·exact ih t q
theorem bF.mem{cs:List Pt}{ts:List (Pt×Pt×Pt)}(h:bF cs ts):∀t∈ts,t.1∈cs/\t.2.1∈cs/\t.2.2∈cs:=by
 induction h with
 |done h=>intro t ht;rw[Zg]at ht;rw[ht];simp
 |cut n4 f r ih=>
  intro t ht;have k2:=Zt.mp (Yq f);rcases Zx.mp ht with rfl|q
  ·exact⟨cO (da (da k2)),cO (da k2),cO k2⟩
  ·obtain⟨q1,q2,q3⟩:=ih t q;exact⟨(ZG.mp q1).1,(ZG.mp q2).1,(ZG.mp q3).1⟩
theorem jy(t:Pt×Pt×Pt):tri cr t=turn t.1 t.2.1 t.2.2:=by unfold tri cr turn;grind
end FF
end
section
namespace FF
noncomputable def xR:List Pt->Bool
 | [a,b,c]=>decide (0<turn a b c)
 |_=>false
noncomputable def mi:Nat->List Pt->Bool
 |0,cs=>xR cs
 |f+1,cs=>if cs.length<=3 then xR cs else match fV cs with
  |none=>false
  |some k=>mi f (cs.filter fun p=>p != at' cs (pvN cs.length k))
theorem i_{cs:List Pt}(h:xR cs=true):∃ts,bF cs ts:=by
 match cs,h with
 | [a,b,c],h=>exact⟨_,.done (Zi h)⟩
theorem jx:∀(f:Nat) (cs:List Pt),mi f cs=true->∃ts,bF cs ts
 |0,cs,h=>i_ h
 |f+1,cs,h=>by
  unfold mi at h
  split at h
  ·exact i_ h
  ·rename_i c
   split at h
   ·cases h
   ·rename_i k e;obtain⟨ts,ht⟩:=jx f _ h;exact⟨_,.cut (by lia) e ht⟩
noncomputable def lv(t:Nat)(cs:List Pt):List Pt:=cs.drop t++cs.take t
noncomputable def spB(w h:Int)(t:Nat):Bool:=mi 9 (lv t (du w h))&&mi 9 ((lv t (du w h)).map swp).reverse
theorem Ap:((Z4 3).all fun i=>(Z4 3).all fun j=>(Z4 12).all fun t=>spB (5+(i:Int)) (6+(j:Int)) t)=true:=by decide +kernel
theorem rE(c:Int){t:Nat}(ht:t<12):(∃ts,bF (lv t (spiral c)) ts)/\∃ts,bF ((lv t (spiral c)).map swp).reverse ts:=by
 have h1:0<=c%3/\c%3<3:=by lia
 have h2:0<=c/3%3/\c/3%3<3:=by lia
 obtain⟨i,hi⟩:∃i:Nat,c%3=(i:Int):=⟨(c%3).toNat,by lia⟩
 obtain⟨j,hj⟩:∃j:Nat,c/3%3=(j:Int):=⟨(c/3%3).toNat,by lia⟩
 have e:spiral c=du (5+(i:Int)) (6+(j:Int)):=by unfold spiral du;simp only[hi,hj]
 have k:=Ap;rw[Y5]at k;have k:=k i (Zt.mpr (by lia))
 rw[Y5]at k;have k:=k j (Zt.mpr (by lia))
 rw[Y5]at k;have k:=k t (Zt.mpr ht);unfold spB at k;rw[Zc,<-e]at k;exact⟨jx _ _ k.1,jx _ _ k.2⟩
theorem ka{d x:Int}(h:0<d):(0<d*x↔0<x)/\(0<=d*x↔0<=x):=by
 refine⟨⟨fun k=>bC h k,fun k=>Int.mul_pos h k⟩,⟨fun k=>dh h k,fun k=>Int.mul_nonneg (Int.le_of_lt h) k⟩⟩
theorem uJ{T:Tn}(h:0<T.det)(a b c p:Pt):c7 (T.led a) (T.led b) (T.led c) (T.led p)=c7 a b c p:=by
 unfold c7;rw[dI,dI,dI,decide_eq_decide.mpr (ka h).2,decide_eq_decide.mpr (ka h).2,decide_eq_decide.mpr (ka h).2]
theorem kB{T:Tn}(h:T.det≠0)(a b:Pt):(T.led a==T.led b)=(a==b):=by
 rw[ZP,beq_iff_eq,beq_iff_eq];exact⟨fun e=>mB h e,fun e=>by rw[e]⟩
theorem uU{T:Tn}(h:0<T.det)(cs:List Pt)(a b c:Pt):gF (cs.map T.led) (T.led a) (T.led b) (T.led c)=gF cs a b c:=by
 unfold gF;rw[dI,decide_eq_decide.mpr (ka h).1,Wc,TK];congr 2;have e:((fun p=>!(p==T.led a||p==T.led b||p==T.led c)) ∘ T.led)=fun p=>!(p==a||p==b||p==c):=by
  funext p
  show (!(T.led p==T.led a||T.led p==T.led b||T.led p==T.led c))=_;rw[kB (by lia),kB (by lia),kB (by lia)]
 have e2:(c7 (T.led a) (T.led b) (T.led c) ∘ T.led)=c7 a b c:=by funext p;exact uJ h a b c p
 rw[e,e2]
theorem uq{T:Tn}(h:0<T.det){cs:List Pt}{k:Nat}(hk:k<cs.length):eQ (cs.map T.led) k=eQ cs k:=by
 unfold eQ;rw[Z7,dS (da (da hk)),dS (da hk),dS hk,uU h]
theorem lX{p q:Nat->Bool}:∀{l:List Nat},(∀k∈l,p k=q k)->l.find? p=l.find? q
 | [],_=>rfl
 |a::l,h=>by
  rw[Vk,Vk,h a Zq,lX fun k hk=>h k (Z8 _ hk)]
theorem bF.led{T:Tn}(h:0<T.det){cs:List Pt}{ts:List (Pt×Pt×Pt)}(c:bF cs ts):∃ts',bF (cs.map T.led) ts':=by
 induction c with
 |done p=>exact⟨_,.done (by rw[dI];exact Int.mul_pos h p)⟩
 |cut n4 f r ih=>
  rename_i cs k ts;obtain⟨ts',ht⟩:=ih;have k2:=Zt.mp (Yq f);have f2:fV (cs.map T.led)=some k:=by
   rw[<-f];unfold fV;rw[Z7];exact lX fun k hk=>uq h (Zt.mp hk)
  refine⟨_,.cut (ts:=ts') (by rw[Z7];exact n4) f2 ?_⟩
  ·rw[Z7,dS (da k2),Wc];have e:((fun p=>p != T.led (at' cs (pvN cs.length k))) ∘ T.led)=fun p=>p != at' cs (pvN cs.length k):=by
    funext p
    show (T.led p != T.led _)=_;unfold bne;rw[kB (by lia)]
   rw[e];exact ht
theorem qz:∀{ts:List (Pt×Pt×Pt)},(∀t∈ts,0<turn t.1 t.2.1 t.2.2)->ts≠[]->0<aO cr ts
 | [t],h,_=>by
  have:=h t Zq
  show 0<tri cr t+0;rw[jy];lia
 |t::s::r,h,_=>by
  have:=h t Zq
  have ih:=qz (ts:=s::r) (fun x hx=>h x (Z8 _ hx)) (by simp)
  show 0<tri cr t+aO cr (s::r);rw[jy];lia
theorem bF.area{cs:List Pt}{ts:List (Pt×Pt×Pt)}(h:bF cs ts)(D:fh cs):0<area cs:=by
 rw[<-jU,h.sum (fun p q=>by unfold cr;lia) D]
 refine qz h.pos ?_;cases h with
 |done=>simp
 |cut=>simp
noncomputable def mS(T S:Tn):Tn:=⟨T.a*S.a+T.b*S.c,T.a*S.b+T.b*S.d,T.c*S.a+T.d*S.c,T.c*S.b+T.d*S.d,T.a*S.e+T.b*S.f+T.e,T.c*S.e+T.d*S.f+T.f⟩
theorem xu(T S:Tn)(p:Pt):(mS T S).led p=T.led (S.led p):=by
 unfold mS Tn.led;exact Yy (by dsimp only;grind) (by dsimp only;grind)
theorem lb(T S:Tn):(mS T S).det=T.det*S.det:=by unfold mS Tn.det;dsimp only;grind
theorem kU(T S:Tn)(cs:List Pt):cs.map (mS T S).led=(cs.map S.led).map T.led:=by
 rw[Yl];congr 1;funext p;exact xu T S p
noncomputable def mZ(R:List Pt):Prop:=fh R/\(eB R\/∃c t,t<12/\R=lv t (spiral c))
theorem iN:(swp:Pt->Pt)=j9.led:=by
 funext p
 show ((p.2,p.1):Pt)=(0*p.1+1*p.2+0,1*p.1+0*p.2+0);exact Yy (by show p.2=0*p.1+1*p.2+0;lia) (by show p.1=1*p.1+0*p.2+0;lia)
theorem mZ.clip{R:List Pt}(B:mZ R){S:Tn}:(0<S.det->∃ts,bF (R.map S.led) ts)/\(S.det<0->∃ts,bF (R.map S.led).reverse ts):=by
 obtain⟨D,M|⟨c,t,ht,rfl⟩⟩:=B
 ·exact⟨fun h=>nS _ _ rfl (M.led h),fun h=>nS _ _ rfl (M.ledR h)⟩
 ·obtain⟨⟨t1,c1⟩,⟨t2,c2⟩⟩:=rE c ht;refine⟨fun h=>c1.led h,fun h=>?_⟩;have e:(lv t (spiral c)).map S.led=((lv t (spiral c)).map swp).map (mS S j9).led:=by
   rw[kU,iN,Yl,Yl];congr 1
   funext p
   show S.led p=S.led (j9.led (j9.led p));rw[<-iN,zD]
  rw[e,<-YO];refine c2.led ?_;rw[lb];show 0<S.det*(0*0-1*1);lia
theorem pW{cs:List Pt}(D:fh cs){T:Tn}(h:T.det≠0):fh (cs.map T.led):=fun i j hi hj e=>by
 rw[Z7]at hi hj;rw[dS hi,dS hj]at e;exact D i j hi hj (mB h e)
theorem yn{cs:List Pt}(D:fh cs):fh cs.reverse:=fun i j hi hj e=>by
 rw[ZA]at hi hj;rw[jo hi,jo hj]at e
 have:=D _ _ (by lia) (by lia) e
 lia
noncomputable def fW(cs:List Pt):Prop:=(0<area cs->∃ts,bF cs ts)/\(area cs<0->∃ts,bF cs.reverse ts)
theorem fW.rev{cs:List Pt}(h:fW cs):fW cs.reverse:=by
 refine⟨fun k=>?_,fun k=>?_⟩
 ·rw[g_]at k;exact h.2 (by lia)
 ·rw[g_]at k;rw[Wf];exact h.1 (by lia)
theorem mZ.clipO{R:List Pt}(B:mZ R){S:Tn}(hd:S.det≠0):fW (R.map S.led):=by
 have D:=B.1;rcases Int.lt_or_gt_of_ne hd with h|h
 ·obtain⟨ts,c⟩:=B.clip.2 h
  have:=c.area (yn (pW D hd))
  rw[g_]at this;exact⟨fun k=>by lia,fun _=>⟨ts,c⟩⟩
 ·obtain⟨ts,c⟩:=B.clip.1 h
  have:=c.area (pW D hd)
  exact⟨fun _=>⟨ts,c⟩,fun k=>by lia⟩
noncomputable def idT:Tn:=⟨1,0,0,1,0,0⟩
theorem Bz:idT.led=id:=by
 funext p
 show ((1*p.1+0*p.2+0,0*p.1+1*p.2+0):Pt)=p;exact Yy (by show 1*p.1+0*p.2+0=p.1;lia) (by show 0*p.1+1*p.2+0=p.2;lia)
theorem pj(ns:List Int)(f:Nat):∃R,mZ R/\(bK ns f=R\/bK ns f=R.reverse\/bK ns f=R.map swp\/bK ns f=R.reverse.map swp):=by
 have hm:2<=bA (cell ns f)/\bA (cell ns f)<=6:=by unfold bA;lia
 have g0:GF (joined (bu ns f) (bj ns f) (cell ns f/5%4)):=by
  refine u4 hm.1 hm.2 (fun i j h _=>iL _ h) (fun i _=>?_)
  have:=cq (cell ns (f+2)) i (show (0:Int)<5 by decide)
  unfold bp;lia
 have bd:∀k,-100<=b_ (cell ns (f+1)) k/\b_ (cell ns (f+1)) k<=100/\-100<=bp (cell ns (f+1)) (cell ns (f+2)) k/\bp (cell ns (f+1)) (cell ns (f+2)) k<=100/\b_ (cell ns (f+1)) k<bp (cell ns (f+1)) (cell ns (f+2)) k:=fun k=>by
  have d1:=cq (cell ns (f+1)) k (show (0:Int)<9 by decide)
  have d2:=cq (cell ns (f+2)) k (show (0:Int)<5 by decide)
  unfold bp b_;lia
 have nr:∀p∈joined (bu ns f) (bj ns f) (cell ns f/5%4),Nr p:=by
  refine nC (mh hm.2 (fun k _=>jV _ k) fun k=>?_) (mh hm.2 (fun k _=>jV _ k) fun k=>?_)
  ·have:=bd k;lia
  ·have:=bd k;lia
 obtain⟨a,b,a1,b1,ab,ej⟩:=ip (m:=bA (cell ns f)) (x:=xAt (cell ns (f+3))) (l:=b_ (cell ns (f+1))) (h:=bp (cell ns (f+1)) (cell ns (f+2))) (af:=cell ns f/5%4) hm.1;have C:cI (bA (cell ns f)) a b (xAt (cell ns (f+3))) (b_ (cell ns (f+1))) (bp (cell ns (f+1)) (cell ns (f+2))):=
  ⟨hm.1,hm.2,a1,b1,ab,fun i j h _=>iL _ h,fun i _=>(bd i).2.2.2.2⟩
 have B:Bdl (bA (cell ns f)) (b_ (cell ns (f+1))) (bp (cell ns (f+1)) (cell ns (f+2))):=fun i _=>⟨(bd i).1,(bd i).2.1,(bd i).2.2.2.1⟩;have el:(joined (bu ns f) (bj ns f) (cell ns f/5%4)).length=2*bA (cell ns f)-a-b:=by
  unfold bu bj;rw[ej,Z5,aK,ZA,gi (by lia)];lia
 have eP:∀i,i<(joined (bu ns f) (bj ns f) (cell ns f/5%4)).length->at' (joined (bu ns f) (bj ns f) (cell ns f/5%4)) i=bO (bA (cell ns f)) b (xAt (cell ns (f+3))) (b_ (cell ns (f+1))) (bp (cell ns (f+1)) (cell ns (f+2))) i:=fun i hi=>by
  rw[el]at hi;unfold bu bj;rw[ej];exact jS C hi
 have M0:eB (joined (bu ns f) (bj ns f) (cell ns f/5%4)):=⟨_,_,n6 C B el eP⟩;have MF:=fun c=>wo C B el eP g0.fe nr c;unfold bK;simp only;generalize joined (bu ns f) (bj ns f) (cell ns f/5%4)=J at *
 generalize cell ns f/20=c at *
 have dT:∀{A:List Pt} (t:Nat),aZ A->fh (A.drop t++A.take t):=fun t F i j hi hj e=>by
  have F2:aZ (_++_):=(by rw[Zk t];exact F:aZ (VI t _++List.drop t _))
  exact F2.rot.ok.inj i j hi hj e
 have bT:mZ (e7 (cY (bL J c (cell ns (f+1))) c (cell ns (f+2))) c):=by
  unfold e7;by_cases s:c/48%5=1
  ·have e1:bL J c (cell ns (f+1))=spiral (cell ns (f+1)):=by unfold bL;rw[if_pos s]
   have e2:cY (spiral (cell ns (f+1))) c (cell ns (f+2))=spiral (cell ns (f+1)):=by
    unfold cY
    split
    ·unfold flat;simp only;split
     ·rfl
     ·exact if_pos (show 12>11 by decide)
    ·rfl
   rw[e1,e2];have l12:(spiral (cell ns (f+1))).length=12:=rfl;refine⟨dT _ (vz _).fe,.inr ⟨_,(c%(spiral (cell ns (f+1))).length).toNat,?_,rfl⟩⟩;rw[l12];lia
  ·have e1:bL J c (cell ns (f+1))=J:=by unfold bL;rw[if_neg s]
   rw[e1];unfold cY
   split
   ·exact⟨dT _ (g0.flat _).fe,.inl ((MF _).turnBy _)⟩
   ·exact⟨dT _ g0.fe,.inl (M0.turnBy _)⟩
 generalize e7 (cY (bL J c (cell ns (f+1))) c (cell ns (f+2))) c=R at *
 refine⟨R,bT,?_⟩;unfold gO dz
 split<;>split
 ·exact .inr (.inr (.inr rfl))
 ·exact .inr (.inr (.inl rfl))
 ·exact .inr (.inl rfl)
 ·exact .inl rfl
theorem jX(ns:List Int)(f:Nat){S:Tn}(hd:S.det≠0):fW ((bK ns f).map S.led):=by
 obtain⟨R,B,e|e|e|e⟩:=pj ns f<;>rw[e]
 ·exact B.clipO hd
 ·rw[YO];exact (B.clipO hd).rev
 ·rw[iN,<-kU];refine B.clipO ?_;rw[lb];show S.det*(0*0-1*1)≠0;lia
 ·rw[YO,YO,iN,<-kU];refine fW.rev (B.clipO ?_);rw[lb];show S.det*(0*0-1*1)≠0;lia
theorem oB(ns:List Int)(f:Nat):fW (bK ns f):=by
 have:=jX ns f (S:=idT) (by decide)
 rw[Bz,List.map_id]at this;exact this
end FF
end
section
namespace FF
theorem Af:∀a b:Nat,∃u v:Int,u*a+v*b=(Nat.gcd a b:Nat):=by
 intro a b
 induction a,b using Nat.gcd.induction with
 |H0 n=>exact⟨0,1,by rw[Nat.gcd_zero_left];lia⟩
 |H1 m n hm ih=>
  obtain⟨u,v,e⟩:=ih;refine⟨v-u*((n/m:Nat):Int),u,?_⟩;rw[Nat.gcd_rec m n,<-e]
  have:((n%m:Nat):Int)=(n:Int)-(m:Int)*((n/m:Nat):Int):=by
   have:=Nat.mod_add_div n m
   have h:((n%m+m*(n/m):Nat):Int)=(n:Int):=by rw[this]
   push_cast at h ⊢
   lia
  rw[this];grind
theorem bez(a b:Int):∃u v:Int,u*a+v*b=(Int.gcd a b:Nat):=by
 obtain⟨u,v,e⟩:=Af a.natAbs b.natAbs;have ha:∃s:Int,s*a=a.natAbs:=by
  rcases Int.natAbs_eq a with h|h
  ·exact⟨1,by lia⟩
  ·exact⟨-1,by lia⟩
 have hb:∃s:Int,s*b=b.natAbs:=by
  rcases Int.natAbs_eq b with h|h
  ·exact⟨1,by lia⟩
  ·exact⟨-1,by lia⟩
 obtain⟨s,hs⟩:=ha;obtain⟨t,ht⟩:=hb;refine⟨u*s,v*t,?_⟩;rw[Int.mul_assoc,hs,Int.mul_assoc,ht];exact e
noncomputable def Way(D i o:Int):Prop:=(o=0/\1<=i/\i<D)\/(o=1/\0<=i/\i<D)
theorem ul{p q r s D:Int}(hD:p*s-q*r=D)(h2:2<=D):∃i o,Way D i o/\(i*p+o*r)%D=0/\(i*q+o*s)%D=0:=by
 obtain⟨u,v,e⟩:=bez p q;by_cases g1:Int.gcd p q=1
 ·rw[g1]at e;have m0:=Int.emod_nonneg (-(u*r+v*s)) (show D≠0 by lia)
  have m1:=Int.emod_lt_of_pos (-(u*r+v*s)) (show 0<D by lia)
  refine⟨-(u*r+v*s)%D,1,.inr ⟨rfl,m0,m1⟩,?_,?_⟩
  ·have e1:-(u*r+v*s)%D*p+1*r=D*(-(-(u*r+v*s)/D)*p-v):=by
    have:=Int.mul_ediv_add_emod (-(u*r+v*s)) D
    have e2:-(u*r+v*s)%D=-(u*r+v*s)-D*(-(u*r+v*s)/D):=by lia
    rw[e2];generalize -(u*r+v*s)/D=z;grind
   rw[e1];exact Int.mul_emod_right _ _
  ·have e1:-(u*r+v*s)%D*q+1*s=D*(-(-(u*r+v*s)/D)*q+u):=by
    have:=Int.mul_ediv_add_emod (-(u*r+v*s)) D
    have e2:-(u*r+v*s)%D=-(u*r+v*s)-D*(-(u*r+v*s)/D):=by lia
    rw[e2];generalize -(u*r+v*s)/D=z;grind
   rw[e1];exact Int.mul_emod_right _ _
 ·have gp:(Int.gcd p q:Int) ∣ p:=Int.gcd_dvd_left ..;have gq:(Int.gcd p q:Int) ∣ q:=Int.gcd_dvd_right ..;generalize eg:(Int.gcd p q)=g at *
  obtain⟨p',rfl⟩:=gp;obtain⟨q',rfl⟩:=gq;have eD:D=g*(p'*s-q'*r):=by rw[<-hD];grind
  have g0:(g:Int)≠0:=fun z=>by rw[z,Int.zero_mul]at eD;lia
  have g2:2<=(g:Int):=by lia
  have dp:0<p'*s-q'*r:=bC (show (0:Int)<g by lia) (by rw[<-eD];lia)
  refine⟨p'*s-q'*r,0,.inl ⟨rfl,by lia,?_⟩,?_,?_⟩
  ·rw[eD]
   have:=Int.mul_le_mul_of_nonneg_right g2 (Int.le_of_lt dp)
   lia
  ·rw[Int.zero_mul,Int.add_zero,eD,show (p'*s-q'*r)*(g*p')=(g*(p'*s-q'*r))*p' by grind];exact Int.mul_emod_right _ _
  ·rw[Int.zero_mul,Int.add_zero,eD,show (p'*s-q'*r)*(g*q')=(g*(p'*s-q'*r))*q' by grind];exact Int.mul_emod_right _ _
noncomputable def gI(a b c:Pt)(i o:Int):Int:=i*(b.1-a.1)+o*(c.1-a.1)
noncomputable def gJ(a b c:Pt)(i o:Int):Int:=i*(b.2-a.2)+o*(c.2-a.2)
noncomputable def wpt(a b c:Pt)(i o:Int):Pt:=(a.1+gI a b c i o/turn a b c,a.2+gJ a b c i o/turn a b c)
theorem vw{a b c:Pt}{i o:Int}(h2:turn a b c≠0)(hx:gI a b c i o%turn a b c=0)(hy:gJ a b c i o%turn a b c=0):
  turn a b (wpt a b c i o)=o/\turn b c (wpt a b c i o)=turn a b c-i-o/\turn c a (wpt a b c i o)=i:=by
 have ex:=Int.mul_ediv_add_emod (gI a b c i o) (turn a b c);have ey:=Int.mul_ediv_add_emod (gJ a b c i o) (turn a b c);rw[hx]at ex;rw[hy]at ey;unfold wpt;generalize gI a b c i o/turn a b c=X at *
 generalize gJ a b c i o/turn a b c=Y at *
 unfold gI at ex;unfold gJ at ey;have k1:turn a b c*turn a b (a.1+X,a.2+Y)=turn a b c*o:=by
  have:turn a b c*turn a b (a.1+X,a.2+Y)=(b.1-a.1)*(turn a b c*Y)-(b.2-a.2)*(turn a b c*X):=by unfold turn;dsimp only;grind
  rw[this,show turn a b c*Y=i*(b.2-a.2)+o*(c.2-a.2) by lia,show turn a b c*X=i*(b.1-a.1)+o*(c.1-a.1) by lia]
  unfold turn;grind
 have k3:turn a b c*turn c a (a.1+X,a.2+Y)=turn a b c*i:=by
  have:turn a b c*turn c a (a.1+X,a.2+Y)=(a.1-c.1)*(turn a b c*Y)-(a.2-c.2)*(turn a b c*X):=by unfold turn;dsimp only;grind
  rw[this,show turn a b c*Y=i*(b.2-a.2)+o*(c.2-a.2) by lia,show turn a b c*X=i*(b.1-a.1)+o*(c.1-a.1) by lia]
  unfold turn;grind
 have r1:=c8 h2 k1;have r3:=c8 h2 k3;have r2:=ja a b c (a.1+X,a.2+Y);exact⟨r1,by lia,r3⟩
theorem wn{a b c:Pt}(h2:2<=turn a b c):∃i o,Way (turn a b c) i o/\gI a b c i o%turn a b c=0/\gJ a b c i o%turn a b c=0:=by
 have:=ul (p:=b.1-a.1) (q:=b.2-a.2) (r:=c.1-a.1) (s:=c.2-a.2) (D:=turn a b c) rfl h2
 exact this
theorem yK{a b c p:Pt}(h:0<turn a b c)(k:cK a b c p){B:Int}(ha:(-B<=a.1/\a.1<=B)/\-B<=a.2/\a.2<=B)(hb:(-B<=b.1/\b.1<=B)/\-B<=b.2/\b.2<=B)(hc:(-B<=c.1/\c.1<=B)/\-B<=c.2/\c.2<=B):(-B<=p.1/\p.1<=B)/\-B<=p.2/\p.2<=B:=by
 have e1:∀q:Pt,Xf 1 0 q=q.1:=fun q=>by unfold Xf;lia
 have e2:∀q:Pt,Xf 0 1 q=q.2:=fun q=>by unfold Xf;lia
 have r1:=fF 1 0 h k (m:=B) (by rw[e1];lia) (by rw[e1];lia) (by rw[e1];lia)
 have r2:=iz 1 0 h k (m:=-B) (by rw[e1];lia) (by rw[e1];lia) (by rw[e1];lia)
 have r3:=fF 0 1 h k (m:=B) (by rw[e2];lia) (by rw[e2];lia) (by rw[e2];lia)
 have r4:=iz 0 1 h k (m:=-B) (by rw[e2];lia) (by rw[e2];lia) (by rw[e2];lia)
 rw[e1]at r1 r2;rw[e2]at r3 r4;exact⟨⟨r2,r1⟩,r4,r3⟩
end FF
end
section
namespace FF
noncomputable abbrev Tri:=Pt×Pt×Pt
noncomputable def t2(t:Tri):Int:=turn t.1 t.2.1 t.2.2
noncomputable def t3(t:Tri):List Pt:=[t.1,t.2.1,t.2.2]
noncomputable def cU(t:Tri)(p:Pt):List Tri:=[(t.1,t.2.1,p),(t.2.1,t.2.2,p),(t.2.2,t.1,p)]
noncomputable def dk(t:Tri)(p:Pt):List Tri:=(cU t p).filter fun x=>decide (0<t2 x)
noncomputable def Wp(t:Tri)(p:Pt):Prop:=∃i o,Way (t2 t) i o/\p=wpt t.1 t.2.1 t.2.2 i o/\gI t.1 t.2.1 t.2.2 i o%t2 t=0/\gJ t.1 t.2.1 t.2.2 i o%t2 t=0
noncomputable def mu(ts:List Tri):Int:=(ts.map fun t=>2*t2 t-1).foldr (·+·) 0
theorem ve(xs ys:List Tri):mu (xs++ys)=mu xs+mu ys:=by
 induction xs with
 |nil=>simp[mu]
 |cons x xs ih=>
  have e:mu (x::xs++ys)=2*t2 x-1+mu (xs++ys):=rfl;have e2:mu (x::xs)=2*t2 x-1+mu xs:=rfl;rw[e,e2,ih];lia
theorem nv{ts:List Tri}(h:∀t∈ts,0<t2 t):(ts.length:Int)<=mu ts:=by
 induction ts with
 |nil=>simp[mu]
 |cons x xs ih=>
  have e2:mu (x::xs)=2*t2 x-1+mu xs:=rfl;have h1:=h x (by simp)
  have h2:=ih fun t ht=>h t (by simp[ht])
  rw[e2,Zd];lia
theorem lU{t:Tri}{p:Pt}:∀x∈dk t p,0<t2 x:=fun x hx=>Zi (ZG.mp hx).2
theorem qV{t:Tri}{p:Pt}(h:2<=t2 t)(w:Wp t p):∃i o,Way (t2 t) i o/\turn t.1 t.2.1 p=o/\turn t.2.1 t.2.2 p=t2 t-i-o/\turn t.2.2 t.1 p=i:=by
 obtain⟨i,o,hw,rfl,hx,hy⟩:=w;exact⟨i,o,hw,vw (by unfold t2 at h;lia) hx hy⟩
theorem oW{t:Tri}{p:Pt}(h:2<=t2 t)(w:Wp t p):cK t.1 t.2.1 t.2.2 p:=by
 obtain⟨i,o,hw,e1,e2,e3⟩:=qV h w;unfold cK;rw[e1,e2,e3];unfold Way at hw;lia
theorem wu{t:Tri}{p:Pt}(h:2<=t2 t)(w:Wp t p):mu (dk t p)+2<=2*t2 t/\mu (dk t p)<2*t2 t-1:=by
 obtain⟨i,o,hw,e1,e2,e3⟩:=qV h w;have s1:t2 (t.1,t.2.1,p)=o:=e1;have s2:t2 (t.2.1,t.2.2,p)=t2 t-i-o:=e2;have s3:t2 (t.2.2,t.1,p)=i:=e3;have cnt:mu (dk t p)+2<=2*t2 t:=by
  unfold dk cU;simp only[XO,Vj,decide_eq_true_eq,s1,s2,s3];unfold Way at hw
  split<;>split<;>split<;>simp only[mu,ZI,W4,List.foldr_cons,List.foldr_nil,s1,s2,s3]<;>lia
 exact⟨cnt,by lia⟩
theorem ut{t:Tri}{p:Pt}:(dk t p).length<=3:=by
 unfold dk cU;exact Nat.le_trans (Wv _ _) (by simp)
theorem ud{t:Tri}{p:Pt}:∀x∈dk t p,∀q∈t3 x,q=p\/q∈t3 t:=fun x hx q hq=>by
 have:=(ZG.mp hx).1
 unfold cU at this;simp only[Zx,Zr,or_false]at this;unfold t3 at hq ⊢;rcases this with e|e|e<;>subst e<;>simp only[Zx,Zr,or_false]at hq ⊢ <;>rcases hq with z|z|z<;>simp[z]
structure c6(F:Pt->Pt->Int):Prop where
 anti:∀p q,F p q=- F q p
 add:∀a b p,turn a b p=0->(min a.1 b.1<=p.1/\p.1<=max a.1 b.1)->(min a.2 b.2<=p.2/\p.2<=max a.2 b.2)->F a b=F a p+F p b
theorem Aj{a b c p:Pt}(h:0<turn a b c)(k:cK a b c p)(z:turn a b p=0):(min a.1 b.1<=p.1/\p.1<=max a.1 b.1)/\(min a.2 b.2<=p.2/\p.2<=max a.2 b.2):=by
 obtain⟨_,k2,k3⟩:=k;have s:=ja a b c p;rw[z]at s;have bx:=qM 1 0 a b c p;have by':=qM 0 1 a b c p
 rw[z]at bx by'
 unfold Xf at bx by'
 simp only[Int.one_mul,Int.zero_mul,Int.add_zero,Int.zero_add]at bx by'
 have key:∀{x y r:Int},turn b c p*(x-r)+turn c a p*(y-r)=0->min x y<=r/\r<=max x y:=by
  intro x y r e;constructor
  ·apply Int.not_lt.mp;intro lt;have h1:0<x-r:=by lia
   have h2:0<y-r:=by lia
   have m1:=Int.mul_nonneg k2 (Int.le_of_lt h1);have m2:=Int.mul_nonneg k3 (Int.le_of_lt h2)
   have:turn b c p=0/\turn c a p=0:=by
    rcases Int.lt_or_eq_of_le k2 with q|q
    ·have:=Int.mul_pos q h1;lia
    ·rcases Int.lt_or_eq_of_le k3 with q3|q3
     ·have:=Int.mul_pos q3 h2;lia
     ·exact⟨q.symm,q3.symm⟩
   lia
  ·apply Int.not_lt.mp;intro lt;have h1:0<r-x:=by lia
   have h2:0<r-y:=by lia
   have m1:=Int.mul_nonneg k2 (Int.le_of_lt h1);have m2:=Int.mul_nonneg k3 (Int.le_of_lt h2);have e':turn b c p*(r-x)+turn c a p*(r-y)=0:=by
    have:turn b c p*(r-x)+turn c a p*(r-y)=-(turn b c p*(x-r)+turn c a p*(y-r)):=by grind
    rw[this,e];rfl
   have:turn b c p=0/\turn c a p=0:=by
    rcases Int.lt_or_eq_of_le k2 with q|q
    ·have:=Int.mul_pos q h1;lia
    ·rcases Int.lt_or_eq_of_le k3 with q3|q3
     ·have:=Int.mul_pos q3 h2;lia
     ·exact⟨q.symm,q3.symm⟩
   lia
 exact⟨key (by lia),key (by lia)⟩
theorem k8{F:Pt->Pt->Int}(A:c6 F){a b c p:Pt}(h:0<turn a b c)(k:cK a b c p)(z:turn a b p=0):tri F (a,b,p)=0:=by
 have o:=Aj h k z;have e:=A.add a b p z o.1 o.2;have e1:=A.anti b p;have e2:=A.anti p a;show F a b+F b p+F p a=0;lia
theorem jp{a b c p:Pt}(k:cK a b c p):cK b c a p:=⟨k.2.1,k.2.2,k.1⟩
theorem sum_filter{F:Pt->Pt->Int}{q:Tri->Bool}:∀{l:List Tri},(∀x∈l,q x=false->tri F x=0)->aO F (l.filter q)=aO F l
 | [],_=>rfl
 |x::l,h=>by
  have ih:=sum_filter (F:=F) (q:=q) (l:=l) fun y hy=>h y (by simp[hy])
  have e:aO F (x::l)=tri F x+aO F l:=rfl;rw[XO];cases hq:q x with
  |true=>
   rw[if_pos rfl];have e2:aO F (x::l.filter q)=tri F x+aO F (l.filter q):=rfl;rw[e,e2,ih]
  |false=>
   rw[if_neg (by simp),e,ih,h x (by simp) hq];lia
theorem uS{F:Pt->Pt->Int}(A:c6 F){t:Tri}{p:Pt}(h:2<=t2 t)(w:Wp t p):aO F (dk t p)=tri F t:=by
 have k:=oW h w;have hp:0<turn t.1 t.2.1 t.2.2:=by unfold t2 at h;lia
 unfold dk;rw[sum_filter]
 ·show tri F (t.1,t.2.1,p)+(tri F (t.2.1,t.2.2,p)+(tri F (t.2.2,t.1,p)+0))=tri F t;have e1:=A.anti t.1 p;have e2:=A.anti t.2.1 p;have e3:=A.anti t.2.2 p;unfold tri;dsimp only;lia
 ·intro x hx hq;have hq:¬0<t2 x:=of_decide_eq_false hq;unfold cU at hx;simp only[Zx,Zr,or_false]at hx;rcases hx with e|e|e<;>subst e
  ·exact k8 A hp k (by have:=k.1;unfold t2 at hq;dsimp only at hq;lia)
  ·exact k8 A (c:=t.1) (by rw[gk];exact hp) (jp k) (by have:=k.2.1;unfold t2 at hq;dsimp only at hq;lia)
  ·exact k8 A (c:=t.2.1) (by rw[gk,gk];exact hp) (jp (jp k)) (by have:=k.2.2;unfold t2 at hq;dsimp only at hq;lia)
end FF
end
section
namespace FF
noncomputable def Hp(u v p:Pt):Int:=if 0<(v.1-u.1)*(p.1-u.1)+(v.2-u.2)*(p.2-u.2) then 1 else 0
noncomputable def Gs(u v:Pt)(p q:Pt):Int:=if turn u v p=0/\turn u v q=0 then Hp u v q-Hp u v p else 0
theorem iq{u v p q:Pt}(h1:turn u v p=0)(h2:turn u v q=0):Gs u v p q=Hp u v q-Hp u v p:=if_pos ⟨h1,h2⟩
theorem fX{u v p q:Pt}(h:¬(turn u v p=0/\turn u v q=0)):Gs u v p q=0:=if_neg h
theorem wV(u v:Pt)(d:u≠v):c6 (Gs u v):=by
 refine⟨fun p q=>?_,fun a b p hc hx hy=>?_⟩
 ·unfold Gs;by_cases c:turn u v p=0/\turn u v q=0
  ·rw[if_pos c,if_pos ⟨c.2,c.1⟩];lia
  ·rw[if_neg c,if_neg fun k=>c ⟨k.2,k.1⟩];rfl
 ·by_cases ab:a=b
  ·subst ab;have e:p=a:=Yy (by lia) (by lia)
   subst e;unfold Gs;split<;>lia
  ·
   have key:∀{x y z:Pt},x≠y->turn x y z=0->turn u v x=0->turn u v y=0->turn u v z=0:=by
    intro x y z ne h1 h2 h3;have i1:(y.1-x.1)*turn u v z=(y.1-x.1)*turn u v x+(z.1-x.1)*(turn u v y-turn u v x)+(v.1-u.1)*turn x y z:=by unfold turn;grind
    have i2:(y.2-x.2)*turn u v z=(y.2-x.2)*turn u v x+(z.2-x.2)*(turn u v y-turn u v x)+(v.2-u.2)*turn x y z:=by unfold turn;grind
    rw[h1,h2,h3]at i1 i2;simp only[Int.mul_zero,Int.sub_self,Int.add_zero,Int.mul_eq_zero]at i1 i2;rcases i1 with j1|j1
    ·rcases i2 with j2|j2
     ·exact absurd (Yy (by lia) (by lia)) ne
     ·exact j2
    ·exact j1
   by_cases ca:turn u v a=0
   ·by_cases cb:turn u v b=0
    ·have cp:=key ab hc ca cb;rw[iq ca cb,iq ca cp,iq cp cb];lia
    ·rw[fX fun k=>cb k.2,fX (p:=p) fun k=>cb k.2];by_cases cp:turn u v p=0
     ·by_cases e:a=p
      ·subst e;rw[iq ca ca];lia
      ·exact absurd (key e (by unfold turn at hc ⊢;grind) ca cp) cb
     ·rw[fX fun k=>cp k.2];rfl
   ·rw[fX fun k=>ca k.1,fX (p:=a) (q:=p) fun k=>ca k.1];by_cases cb:turn u v b=0
    ·by_cases cp:turn u v p=0
     ·by_cases e:b=p
      ·subst e;rw[iq cp cp];lia
      ·exact absurd (key e (by unfold turn at hc ⊢;grind) cb cp) ca
     ·rw[fX fun k=>cp k.1];rfl
    ·rw[fX fun k=>cb k.2];rfl
noncomputable def Up(N A B:Int)(p q:Pt):Int:=
 if N*p.1<A/\A<N*q.1 then (if turn (N*p.1,N*p.2) (N*q.1,N*q.2) (A,B)<0 then -1 else 0)
 else if N*q.1<A/\A<N*p.1 then (if 0<turn (N*p.1,N*p.2) (N*q.1,N*q.2) (A,B) then 1 else 0)
 else 0
theorem iY{N A B:Int}{p q:Pt}(h1:N*p.1<A)(h2:A<N*q.1):Up N A B p q=if turn (N*p.1,N*p.2) (N*q.1,N*q.2) (A,B)<0 then -1 else 0:=if_pos ⟨h1,h2⟩
theorem jL{N A B:Int}{p q:Pt}(h1:N*q.1<A)(h2:A<N*p.1):Up N A B p q=if 0<turn (N*p.1,N*p.2) (N*q.1,N*q.2) (A,B) then 1 else 0:=by
 unfold Up;rw[if_neg (by lia),if_pos ⟨h1,h2⟩]
theorem bM{N A B:Int}{p q:Pt}(h:(N*p.1<A/\N*q.1<A)\/(A<N*p.1/\A<N*q.1)):Up N A B p q=0:=by
 unfold Up;rw[if_neg (by lia),if_neg (by lia)]
theorem nA(a b p:Pt):turn b a p=- turn a b p:=by unfold turn;grind
noncomputable def gC(N A:Int):Prop:=∀x:Int,N*x≠A
theorem rW{N A B:Int}(p q:Pt):Up N A B p q=- Up N A B q p:=by
 by_cases c:N*p.1<A/\A<N*q.1
 ·rw[iY c.1 c.2,jL c.1 c.2,nA (N*p.1,N*p.2)]
  split<;>split<;>lia
 ·by_cases c2:N*q.1<A/\A<N*p.1
  ·rw[jL c2.1 c2.2,iY c2.1 c2.2,nA (N*p.1,N*p.2)]
   split<;>split<;>lia
  ·unfold Up;rw[if_neg c,if_neg c2,if_neg c2,if_neg c];rfl
theorem mq{k l x y:Int}(hk:0<k)(hl:0<l)(e:k*x=l*y):(0<x↔0<y)/\(x<0↔y<0):=by
 have f:∀{k l x y:Int},0<k->0<l->k*x=l*y->(0<x->0<y):=fun hk hl e h=>bC hl (e ▸ Int.mul_pos hk h);have e':k*-x=l*-y:=by grind
 refine⟨⟨f hk hl e,f hl hk e.symm⟩,fun h=>?_,fun h=>?_⟩
 ·have:=f hk hl e' (by lia);lia
 ·have:=f hl hk e'.symm (by lia);lia
theorem w9{N A B:Int}(hN:0<N)(hA:gC N A):c6 (Up N A B):=by
 refine⟨rW,fun a b p hc hx hy=>?_⟩;have ca:=hA a.1;have cb:=hA b.1;have cp:=hA p.1;have mon:∀{x y:Int},x<=y->N*x<=N*y:=fun h=>Int.mul_le_mul_of_nonneg_left h (Int.le_of_lt hN);have lo:N*a.1<=N*p.1\/N*b.1<=N*p.1:=by
  rcases Int.le_total a.1 b.1 with h|h
  ·exact .inl (mon (by lia))
  ·exact .inr (mon (by lia))
 have hi:N*p.1<=N*a.1\/N*p.1<=N*b.1:=by
  rcases Int.le_total a.1 b.1 with h|h
  ·exact .inr (mon (by lia))
  ·exact .inl (mon (by lia))
 have i1:(b.1-a.1)*turn (N*p.1,N*p.2) (N*b.1,N*b.2) (A,B)=(b.1-p.1)*turn (N*a.1,N*a.2) (N*b.1,N*b.2) (A,B)+N*(A-N*b.1)*turn a b p:=by unfold turn;grind
 have i2:(b.1-a.1)*turn (N*a.1,N*a.2) (N*p.1,N*p.2) (A,B)=(p.1-a.1)*turn (N*a.1,N*a.2) (N*b.1,N*b.2) (A,B)-N*(A-N*a.1)*turn a b p:=by unfold turn;grind
 rw[hc,Int.mul_zero,Int.add_zero]at i1;rw[hc,Int.mul_zero,Int.sub_zero]at i2;have lt:∀{x y:Int},N*x<N*y->x<y:=fun h=>Int.lt_of_mul_lt_mul_left h (Int.le_of_lt hN);rcases Int.lt_or_gt_of_ne ca with a1|a1
 ·rcases Int.lt_or_gt_of_ne cb with b1|b1
  ·rw[bM (.inl ⟨a1,b1⟩),bM (p:=a) (.inl ⟨a1,by lia⟩),bM (.inl ⟨by lia,b1⟩)];rfl
  ·have ab:=lt (Int.lt_trans a1 b1);rcases Int.lt_or_gt_of_ne cp with p1|p1
   ·have pb:=lt (Int.lt_trans p1 b1);obtain⟨s1,s2⟩:=mq (by lia) (by lia) i1
    rw[iY a1 b1,bM (.inl ⟨a1,p1⟩),iY p1 b1];simp only[s2];lia
   ·have ap:=lt (Int.lt_trans a1 p1);obtain⟨s1,s2⟩:=mq (by lia) (by lia) i2
    rw[iY a1 b1,bM (p:=p) (.inr ⟨p1,b1⟩),iY a1 p1];simp only[s2];lia
 ·rcases Int.lt_or_gt_of_ne cb with b1|b1
  ·have ab:=lt (Int.lt_trans b1 a1);rcases Int.lt_or_gt_of_ne cp with p1|p1
   ·have ap:=lt (Int.lt_trans p1 a1);obtain⟨s1,s2⟩:=mq (k:=a.1-b.1) (l:=a.1-p.1) (by lia) (by lia) (by grind:(a.1-b.1)*turn (N*a.1,N*a.2) (N*p.1,N*p.2) (A,B)=(a.1-p.1)*turn (N*a.1,N*a.2) (N*b.1,N*b.2) (A,B))
    rw[jL b1 a1,bM (p:=p) (.inl ⟨p1,b1⟩),jL p1 a1];simp only[s1];lia
   ·have pb:=lt (Int.lt_trans b1 p1);obtain⟨s1,s2⟩:=mq (k:=a.1-b.1) (l:=p.1-b.1) (by lia) (by lia) (by grind:(a.1-b.1)*turn (N*p.1,N*p.2) (N*b.1,N*b.2) (A,B)=(p.1-b.1)*turn (N*a.1,N*a.2) (N*b.1,N*b.2) (A,B))
    rw[jL b1 a1,bM (.inr ⟨a1,p1⟩),jL b1 p1];simp only[s1];lia
  ·rw[bM (.inr ⟨a1,b1⟩),bM (p:=a) (.inr ⟨a1,by lia⟩),bM (.inr ⟨by lia,b1⟩)];rfl
end FF
end
section
namespace FF
theorem qx{N A B:Int}{a b c:Pt}(hN:0<N)(h:0<turn a b c)(a1:N*a.1<A)(b1:A<N*b.1)(c1:A<N*c.1):0<=Up N A B a b+Up N A B c a:=by
 rw[iY a1 b1,jL a1 c1];have i:(N*b.1-N*a.1)*turn (N*c.1,N*c.2) (N*a.1,N*a.2) (A,B)+(N*c.1-N*a.1)*turn (N*a.1,N*a.2) (N*b.1,N*b.2) (A,B)=(A-N*a.1)*(N*N*turn a b c):=by unfold turn;grind
 split
 ·rename_i n;rw[if_pos]
  ·decide
  ·have q:=Int.mul_pos (show 0<A-N*a.1 by lia) (Int.mul_pos (Int.mul_pos hN hN) h)
   have q2:=Int.mul_neg_of_pos_of_neg (show 0<N*c.1-N*a.1 by lia) n
   exact bC (k:=N*b.1-N*a.1) (by lia) (by lia)
 ·split<;>decide
theorem mU{N A B:Int}{a b c:Pt}(hN:0<N)(h:0<turn a b c)(a1:A<N*a.1)(b1:N*b.1<A)(c1:N*c.1<A):0<=Up N A B a b+Up N A B c a:=by
 rw[jL b1 a1,iY c1 a1];have i:(N*b.1-N*a.1)*turn (N*c.1,N*c.2) (N*a.1,N*a.2) (A,B)+(N*c.1-N*a.1)*turn (N*a.1,N*a.2) (N*b.1,N*b.2) (A,B)=(A-N*a.1)*(N*N*turn a b c):=by unfold turn;grind
 by_cases n:turn (N*c.1,N*c.2) (N*a.1,N*a.2) (A,B)<0
 ·rw[if_pos n,if_pos]
  ·decide
  ·have q:=Int.mul_pos (show 0<N*a.1-A by lia) (Int.mul_pos (Int.mul_pos hN hN) h)
   have q2:=Int.mul_neg_of_pos_of_neg (show 0<N*a.1-N*b.1 by lia) n
   refine bC (k:=N*a.1-N*c.1) (by lia) ?_
   have e1:(N*a.1-N*c.1)*turn (N*a.1,N*a.2) (N*b.1,N*b.2) (A,B)=(N*a.1-A)*(N*N*turn a b c)-(N*a.1-N*b.1)*turn (N*c.1,N*c.2) (N*a.1,N*a.2) (A,B):=by grind
   lia
 ·rw[if_neg n];split<;>decide
theorem gX(a b c:Pt):turn b c a=turn a b c:=by unfold turn;grind
theorem A8{N A B:Int}(hN:0<N)(hA:gC N A){t:Tri}(h:0<t2 t):0<=tri (Up N A B) t:=by
 obtain⟨a,b,c⟩:=t;show 0<=Up N A B a b+Up N A B b c+Up N A B c a;have h:0<turn a b c:=h;have h2:0<turn b c a:=by rw[gX];exact h
 have h3:0<turn c a b:=by rw[gX];exact h2
 rcases Int.lt_or_gt_of_ne (hA a.1) with a1|a1<;>rcases Int.lt_or_gt_of_ne (hA b.1) with b1|b1<;>rcases Int.lt_or_gt_of_ne (hA c.1) with c1|c1
 ·rw[bM (.inl ⟨a1,b1⟩),bM (.inl ⟨b1,c1⟩),bM (.inl ⟨c1,a1⟩)];decide
 ·have:=mU (B:=B) hN h3 c1 a1 b1
  rw[bM (.inl ⟨a1,b1⟩)];lia
 ·have:=mU (B:=B) hN h2 b1 c1 a1
  rw[bM (p:=c) (.inl ⟨c1,a1⟩)];lia
 ·have:=qx (B:=B) hN h a1 b1 c1
  rw[bM (p:=b) (.inr ⟨b1,c1⟩)];lia
 ·have:=mU (B:=B) hN h a1 b1 c1
  rw[bM (p:=b) (.inl ⟨b1,c1⟩)];lia
 ·have:=qx (B:=B) hN h2 b1 c1 a1
  rw[bM (p:=c) (.inr ⟨c1,a1⟩)];lia
 ·have:=qx (B:=B) hN h3 c1 a1 b1
  rw[bM (.inr ⟨a1,b1⟩)];lia
 ·rw[bM (.inr ⟨a1,b1⟩),bM (.inr ⟨b1,c1⟩),bM (.inr ⟨c1,a1⟩)];decide
noncomputable def InT(N A B:Int)(t:Tri):Prop:=
 0<turn (N*t.1.1,N*t.1.2) (N*t.2.1.1,N*t.2.1.2) (A,B)/\0<turn (N*t.2.1.1,N*t.2.1.2) (N*t.2.2.1,N*t.2.2.2) (A,B)/\0<turn (N*t.2.2.1,N*t.2.2.2) (N*t.1.1,N*t.1.2) (A,B)
theorem zf{N A B:Int}(hN:0<N)(hA:gC N A){t:Tri}(h:InT N A B t):1<=tri (Up N A B) t:=by
 obtain⟨a,b,c⟩:=t;show 1<=Up N A B a b+Up N A B b c+Up N A B c a;obtain⟨h1,h2,h3⟩:=h;have h1:0<turn (N*a.1,N*a.2) (N*b.1,N*b.2) (A,B):=h1;have h2:0<turn (N*b.1,N*b.2) (N*c.1,N*c.2) (A,B):=h2;have h3:0<turn (N*c.1,N*c.2) (N*a.1,N*a.2) (A,B):=h3;have bar:turn (N*b.1,N*b.2) (N*c.1,N*c.2) (A,B)*(N*a.1-A)+turn (N*c.1,N*c.2) (N*a.1,N*a.2) (A,B)*(N*b.1-A)+turn (N*a.1,N*a.2) (N*b.1,N*b.2) (A,B)*(N*c.1-A)=0:=by unfold turn;grind
 have e1:Up N A B a b=if N*b.1<A/\A<N*a.1 then 1 else 0:=by
  unfold Up;rw[if_neg (show ¬turn (N*a.1,N*a.2) (N*b.1,N*b.2) (A,B)<0 by lia),if_pos h1];split<;>split<;>lia
 have e2:Up N A B b c=if N*c.1<A/\A<N*b.1 then 1 else 0:=by
  unfold Up;rw[if_neg (show ¬turn (N*b.1,N*b.2) (N*c.1,N*c.2) (A,B)<0 by lia),if_pos h2];split<;>split<;>lia
 have e3:Up N A B c a=if N*a.1<A/\A<N*c.1 then 1 else 0:=by
  unfold Up;rw[if_neg (show ¬turn (N*c.1,N*c.2) (N*a.1,N*a.2) (A,B)<0 by lia),if_pos h3];split<;>split<;>lia
 rw[e1,e2,e3];rcases Int.lt_or_gt_of_ne (hA a.1) with a1|a1<;>rcases Int.lt_or_gt_of_ne (hA b.1) with b1|b1<;>rcases Int.lt_or_gt_of_ne (hA c.1) with c1|c1
 ·have q1:=Int.mul_neg_of_pos_of_neg h2 (show N*a.1-A<0 by lia)
  have q2:=Int.mul_neg_of_pos_of_neg h3 (show N*b.1-A<0 by lia)
  have q3:=Int.mul_neg_of_pos_of_neg h1 (show N*c.1-A<0 by lia)
  lia
 all_goals first
  | (split<;>split<;>split<;>lia)
  |skip
 have q1:=Int.mul_pos h2 (show 0<N*a.1-A by lia)
 have q2:=Int.mul_pos h3 (show 0<N*b.1-A by lia)
 have q3:=Int.mul_pos h1 (show 0<N*c.1-A by lia)
 lia
theorem la{F:Pt->Pt->Int}:∀{ts:List Tri},(∀t∈ts,0<=tri F t)->0<=aO F ts/\∀t∈ts,tri F t<=aO F ts
 | [],_=>⟨Int.le_refl _,fun t h=>absurd h Zr⟩
 |x::ts,h=>by
  obtain⟨p,q⟩:=la (F:=F) (ts:=ts) fun t ht=>h t (Z8 _ ht);have e:aO F (x::ts)=tri F x+aO F ts:=rfl;have hx:=h x Zq;rw[e];refine⟨by lia,fun t ht=>?_⟩
  rcases Zx.mp ht with z|z
  ·subst z;lia
  ·have:=q t z;lia
theorem xo{F:Pt->Pt->Int}{ts:List Tri}:∀{i j:Nat} {t s:Tri},(∀t∈ts,0<=tri F t)->i<j->ts[i]?=some t->ts[j]?=some s->tri F t+tri F s<=aO F ts:=by
 induction ts with
 |nil=>intro i j t s _ _ h1 _;simp at h1
 |cons x ts ih=>
  intro i j t s h lt h1 h2;have h':∀t∈ts,0<=tri F t:=fun t ht=>h t (Z8 _ ht);obtain⟨p,q⟩:=la h';have e:aO F (x::ts)=tri F x+aO F ts:=rfl;have hx:=h x Zq;obtain⟨k,rfl⟩:∃k,j=k+1:=⟨j-1,by lia⟩
  rw[V9]at h2;rw[e];by_cases z:i=0
  ·subst z;rw[List.getElem?_cons_zero]at h1;have e1:x=t:=Ze h1
   have:=q s (Y8 h2)
   rw[<-e1];lia
  ·obtain⟨l,rfl⟩:∃l,i=l+1:=⟨i-1,by lia⟩
   rw[V9]at h1
   have:=ih h' (by lia) h1 h2
   lia
end FF
end
section
namespace FF
theorem qP{N y:Int}(h0:y≠0)(h1:-N<y)(h2:y<N)(x:Int):N*x≠y:=by
 intro e;rcases Int.lt_trichotomy x 0 with h|h|h
 ·have:=Int.mul_le_mul_of_nonneg_left (show x<=-1 by lia) (show 0<=N by lia)
  lia
 ·subst h;lia
 ·have:=Int.mul_le_mul_of_nonneg_left (show 1<=x by lia) (show 0<=N by lia)
  lia
theorem zP{u v w r:Pt}(h1:turn u v w=1)(h2:turn u v r=1):∃N A B:Int,0<N/\gC N A/\InT N A B (u,v,w)/\InT N A B (u,v,r):=by
 have gen:∀k dx dy ex ey M a:Int,dx=v.1-u.1->dy=v.2-u.2->ex=w.1-u.1->ey=w.2-u.2->k=(r.1-w.1)*ey-(r.2-w.2)*ex->
   0<a->a<2*M-1->0<a-k->a-k<2*M-1->0<M->(∀x,2*M*x≠a*dx+ex)->
   ∃N A B:Int,0<N/\gC N A/\InT N A B (u,v,w)/\InT N A B (u,v,r):=by
  intro k dx dy ex ey M a e1 e2 e3 e4 e5 a0 a1 b0 b1 M0 hm;subst e1 e2 e3 e4;have rx:r.1=w.1+k*(v.1-u.1):=by unfold turn at h1 h2;grind
  have ry:r.2=w.2+k*(v.2-u.2):=by unfold turn at h1 h2;grind
  refine⟨2*M,2*M*u.1+a*(v.1-u.1)+(w.1-u.1),2*M*u.2+a*(v.2-u.2)+(w.2-u.2),by lia,fun x e=>hm (x-u.1) ?_,⟨?_,?_,?_⟩,?_,?_,?_⟩
  ·rw[Int.mul_sub,e];lia
  ·have:turn (2*M*u.1,2*M*u.2) (2*M*v.1,2*M*v.2) (2*M*u.1+a*(v.1-u.1)+(w.1-u.1),2*M*u.2+a*(v.2-u.2)+(w.2-u.2))=2*M*turn u v w:=by unfold turn;grind
   show 0<turn (2*M*u.1,2*M*u.2) (2*M*v.1,2*M*v.2) _;rw[this,h1];lia
  ·have:turn (2*M*v.1,2*M*v.2) (2*M*w.1,2*M*w.2) (2*M*u.1+a*(v.1-u.1)+(w.1-u.1),2*M*u.2+a*(v.2-u.2)+(w.2-u.2))=2*M*((2*M-a-1)*turn u v w):=by unfold turn;grind
   show 0<turn (2*M*v.1,2*M*v.2) (2*M*w.1,2*M*w.2) _;rw[this,h1];exact Int.mul_pos (by lia) (by lia)
  ·have:turn (2*M*w.1,2*M*w.2) (2*M*u.1,2*M*u.2) (2*M*u.1+a*(v.1-u.1)+(w.1-u.1),2*M*u.2+a*(v.2-u.2)+(w.2-u.2))=2*M*(a*turn u v w):=by unfold turn;grind
   show 0<turn (2*M*w.1,2*M*w.2) (2*M*u.1,2*M*u.2) _;rw[this,h1];exact Int.mul_pos (by lia) (by lia)
  ·have:turn (2*M*u.1,2*M*u.2) (2*M*v.1,2*M*v.2) (2*M*u.1+a*(v.1-u.1)+(w.1-u.1),2*M*u.2+a*(v.2-u.2)+(w.2-u.2))=2*M*turn u v w:=by unfold turn;grind
   show 0<turn (2*M*u.1,2*M*u.2) (2*M*v.1,2*M*v.2) _;rw[this,h1];lia
  ·have:turn (2*M*v.1,2*M*v.2) (2*M*r.1,2*M*r.2) (2*M*u.1+a*(v.1-u.1)+(w.1-u.1),2*M*u.2+a*(v.2-u.2)+(w.2-u.2))=2*M*((2*M-(a-k)-1)*turn u v w):=by rw[rx,ry];unfold turn;grind
   show 0<turn (2*M*v.1,2*M*v.2) (2*M*r.1,2*M*r.2) _;rw[this,h1];exact Int.mul_pos (by lia) (by lia)
  ·have:turn (2*M*r.1,2*M*r.2) (2*M*u.1,2*M*u.2) (2*M*u.1+a*(v.1-u.1)+(w.1-u.1),2*M*u.2+a*(v.2-u.2)+(w.2-u.2))=2*M*((a-k)*turn u v w):=by rw[rx,ry];unfold turn;grind
   show 0<turn (2*M*r.1,2*M*r.2) (2*M*u.1,2*M*u.2) _;rw[this,h1];exact Int.mul_pos (by lia) (by lia)
 have h1':=h1;unfold turn at h1';generalize hk:(r.1-w.1)*(w.2-u.2)-(r.2-w.2)*(w.1-u.1)=k;generalize hdx:v.1-u.1=dx at h1';generalize hex:w.1-u.1=ex at h1';have hM:0<(k.natAbs:Int)+dx.natAbs+ex.natAbs+4:=by lia
 generalize hMM:(k.natAbs:Int)+dx.natAbs+ex.natAbs+4=M at hM;by_cases m0:∀x,2*M*x≠M*dx+ex
 ·exact gen k dx _ ex _ M M hdx.symm rfl hex.symm rfl (by rw[<-hk,<-hex]) (by lia) (by lia) (by lia) (by lia) hM m0
 ·refine gen k dx _ ex _ M (M+1) hdx.symm rfl hex.symm rfl (by rw[<-hk,<-hex]) (by lia) (by lia) (by lia) (by lia) hM fun x e=>?_
  obtain⟨y,hy⟩:=S8.mp m0;have hy:=Classical.not_not.mp hy;have e2:2*M*(x-y)=dx:=by grind
  by_cases z:dx=0
  ·have ez:ex≠0:=fun q=>by rw[z,q]at h1';lia
   refine qP (N:=2*M) ez (by lia) (by lia) x ?_
   rw[e,z,Int.mul_zero,Int.zero_add]
  ·exact qP (N:=2*M) z (by lia) (by lia) _ e2
noncomputable def bI(t:Tri)(u v:Pt):Prop:=(u=t.1/\v=t.2.1)\/(u=t.2.1/\v=t.2.2)\/(u=t.2.2/\v=t.1)
theorem lY{t:Tri}{u v:Pt}(h:t2 t=1)(s:bI t u v):∃w,turn u v w=1/\∀N A B,InT N A B (u,v,w)->InT N A B t:=by
 obtain⟨a,b,c⟩:=t;have h:turn a b c=1:=h;have c2:turn b c a=1:=by rw[gX];exact h
 have c3:turn c a b=1:=by rw[gX];exact c2
 rcases s with ⟨rfl,rfl⟩|⟨rfl,rfl⟩|⟨rfl,rfl⟩
 ·exact⟨c,h,fun _ _ _ k=>k⟩
 ·exact⟨a,c2,fun _ _ _ k=>⟨k.2.2,k.1,k.2.1⟩⟩
 ·exact⟨b,c3,fun _ _ _ k=>⟨k.2.1,k.2.2,k.1⟩⟩
theorem xL{us:List Tri}(one:∀t∈us,t2 t=1)(low:∀N A B:Int,0<N->gC N A->aO (Up N A B) us<=1){i j:Nat}{t s:Tri}{u v:Pt}(lt:i<j)(hi:us[i]?=some t)(hj:us[j]?=some s)
  (s1:bI t u v)(s2:bI s u v):False:=by
 obtain⟨w,w1,k1⟩:=lY (one t (Y8 hi)) s1;obtain⟨r,r1,k2⟩:=lY (one s (Y8 hj)) s2;obtain⟨N,A,B,hN,hA,i1,i2⟩:=zP w1 r1;have g:=xo (F:=Up N A B) (fun t ht=>A8 hN hA (by rw[one t ht];decide)) lt hi hj
 have a1:=zf hN hA (k1 _ _ _ i1);have a2:=zf hN hA (k2 _ _ _ i2)
 have:=low N A B hN hA
 lia
end FF
end
section
namespace FF
noncomputable def Sng(cs:List Pt):Prop:=∀us:List Tri,(∀t∈us,t2 t=1)->(∀F,c6 F->aO F us=cyc F cs)->∀(i j:Nat) (t s:Tri) (u v:Pt),i<j->us[i]?=some t->us[j]?=some s->bI t u v->bI s u v->False
structure Sn2(cs:List Pt):Prop where
 l:Sng cs
 r:Sng cs.reverse
theorem c6.self{F:Pt->Pt->Int}(A:c6 F)(p:Pt):F p p=0:=by have:=A.anti p p;lia
theorem Sng.congr{cs ds:List Pt}(S:Sng cs)(h:∀F,c6 F->cyc F cs=cyc F ds):Sng ds:=fun us one sum=>S us one fun F A=>(sum F A).trans (h F A).symm
theorem gA{F:Pt->Pt->Int}(A:c6 F)(cs:List Pt):cyc F cs.reverse=- cyc F cs:=by
 rw[AU];have e:cyc (fun a b=>F b a+F a b) cs=0:=by
  rw[jM (G:=fun _ _=>0) fun a b _ _=>by have:=A.anti a b;show F b a+F a b=0;lia]
  exact yA (fun _=>0) cs
 rw[Aw]at e;lia
theorem Sn2.congr{cs ds:List Pt}(S:Sn2 cs)(h:∀F,c6 F->cyc F cs=cyc F ds):Sn2 ds:=⟨S.l.congr h,S.r.congr fun F A=>by rw[gA A,gA A,h F A]⟩
theorem Sn2.rev{cs:List Pt}(S:Sn2 cs):Sn2 cs.reverse:=⟨S.r,by rw[Wf];exact S.l⟩
theorem Sn2.turnBy{A:List Pt}(S:Sn2 A)(t:Nat):Sn2 (A.drop t++A.take t):=S.congr fun F _=>by rw[gj,Zk]
theorem rT:c6 cr:=⟨fun p q=>by unfold cr;lia,fun a b p h _ _=>by unfold turn at h;unfold cr;grind⟩
theorem Am{us:List Tri}(one:∀t∈us,t2 t=1):0<=aO cr us:=(la fun t ht=>by
 have:=one t ht
 have e:tri cr t=t2 t:=by unfold tri t2 cr turn;grind
 lia).1
theorem pG{cs:List Pt}(ar:0<area cs)(low:∀N A B:Int,0<N->gC N A->cyc (Up N A B) cs<=1):Sn2 cs:=by
 refine⟨fun us one sum i j t s u v lt hi hj s1 s2=>xL one (fun N A B hN hA=>?_) lt hi hj s1 s2,fun us one sum=>?_⟩
 ·rw[sum _ (w9 hN hA)];exact low N A B hN hA
 ·exfalso;have e:=sum cr rT;rw[gA rT,jU]at e
  have:=Am one
  lia
theorem qA{N A B:Int}(hN:0<N):∀(r:List Col) (c:Col),gZ c r->A<N*c.x->lp (Up N A B) c r=0
 | [],c,_,h=>bM (.inr ⟨h,h⟩)
 |d::r,c,k,h=>by
  have h2:A<N*d.x:=Int.lt_trans h (Int.mul_lt_mul_of_pos_left k.1 hN);show Up N A B c.lo d.lo+lp (Up N A B) d r+Up N A B d.hi c.hi=0;rw[qA hN r d k.2.2.2.2 h2,bM (p:=c.lo) (q:=d.lo) (.inr ⟨h,h2⟩),bM (p:=d.hi) (q:=c.hi) (.inr ⟨h2,h⟩)];rfl
theorem pB(N A B:Int)(p q:Pt):Up N A B p q<=1:=by unfold Up;split<;>split<;>(try split)<;>lia
theorem vc{N A B:Int}{p q:Pt}(h:N*p.1<A):Up N A B p q<=0:=by unfold Up;split<;>split<;>(try split)<;>lia
theorem vq{N A B:Int}(hN:0<N)(hA:gC N A):∀(r:List Col) (c:Col),gZ c r->lp (Up N A B) c r<=1
 | [],c,_=>pB _ _ _ _ _
 |d::r,c,k=>by
  show Up N A B c.lo d.lo+lp (Up N A B) d r+Up N A B d.hi c.hi<=1;have cd:=Int.mul_lt_mul_of_pos_left k.1 hN;have ih:=vq (B:=B) hN hA r d k.2.2.2.2;rcases Int.lt_or_gt_of_ne (hA d.x) with h|h
  ·rw[bM (p:=c.lo) (q:=d.lo) (.inl ⟨Int.lt_trans cd h,h⟩),bM (p:=d.hi) (q:=c.hi) (.inl ⟨h,Int.lt_trans cd h⟩)];lia
  ·rw[qA hN r d k.2.2.2.2 h];have h1:=pB N A B d.hi c.hi;rcases Int.lt_or_gt_of_ne (hA c.x) with g|g
   ·have:=vc (B:=B) (p:=c.lo) (q:=d.lo) g;lia
   ·rw[bM (p:=c.lo) (q:=d.lo) (.inr ⟨g,h⟩)];lia
theorem dj{N A B:Int}(hA:gC N A){p q:Pt}(h:p.1=q.1):Up N A B p q=0:=by
 have:=hA p.1
 unfold Up;rw[if_neg (by rw[h];lia),if_neg (by rw[h];lia)]
theorem Sn2.joined{m:Nat}{x l h:Nat->Int}{af:Int}(m2:2<=m)(m6:m<=6)(xs:∀i j,i<j->j<m->x i<x j)(lh:∀i,i<m->l i<h i):Sn2 (joined (loL m x l) (loL m x h) af):=by
 obtain⟨a,b,ha,hb,n3,e⟩:=ip (x:=x) (l:=l) (h:=h) (af:=af) m2;rw[e];have C:cI m a b x l h:=⟨m2,m6,ha,hb,n3,xs,lh⟩;refine pG (by rw[kF C];exact n_ C) fun N A B hN hA=>?_
 rw[tI (fun p=>(w9 hN hA).self p) C,yU m2,xZ];have k:gZ ⟨x 0,l 0,up m a b l h 0⟩ (rest m x l (up m a b l h)):=by
  refine g7 x l (up m a b l h) (m-1) 0 ?_;intro i _ hi;have lh0:=C.lh i (by lia)
  have lh1:=C.lh (i+1) (by lia)
  refine⟨C.xs i (i+1) (by lia) (by lia),?_,?_,?_⟩
  ·unfold up;split<;>lia
  ·unfold up;split<;>lia
  ·unfold up;split<;>split<;>lia
 have h1:=vq (B:=B) hN hA _ _ k;have h2:=dj (B:=B) hA (p:=Col.hi ⟨x 0,l 0,up m a b l h 0⟩) (q:=Col.lo ⟨x 0,l 0,up m a b l h 0⟩) rfl;show lp (Up N A B) _ _+Up N A B _ _<=1;lia
end FF
end
section
namespace FF
theorem xW(N x1 x2 y A B:Int):turn (N*x1,N*y) (N*x2,N*y) (A,B)=(N*x2-N*x1)*(B-N*y):=by unfold turn;grind
noncomputable def bl(B y:Int):Int:=if B<y then 1 else 0
theorem vg(B y:Int):0<=bl B y/\bl B y<=1:=by unfold bl;split<;>lia
theorem iP{B y z:Int}(h:y<=z):bl B y<=bl B z:=by unfold bl;split<;>split<;>lia
theorem gM{N A B x1 x2 y:Int}(h1:N*x1<A)(h2:A<N*x2):Up N A B (x1,y) (x2,y)=- bl B (N*y):=by
 unfold bl;rw[iY h1 h2,xW];have k:(N*x2-N*x1)*(B-N*y)<0↔B<N*y:=by
  have:=Int.sub_pos_of_lt (Int.lt_trans h1 h2)
  refine⟨fun h=>Int.not_le.mp fun c=>?_,fun h=>Int.mul_neg_of_pos_of_neg this (by lia)⟩
  have:=Int.mul_nonneg (Int.le_of_lt this) (Int.sub_nonneg_of_le c);lia
 by_cases c:B<N*y
 ·rw[if_pos (k.mpr c),if_pos c]
 ·rw[if_neg (fun h=>c (k.mp h)),if_neg c];rfl
theorem ir{N A B x1 x2 y:Int}(h1:N*x2<A)(h2:A<N*x1):Up N A B (x1,y) (x2,y)=bl B (N*y):=by
 rw[rW,gM h1 h2,Int.neg_neg]
theorem fin1{b0 b1 b3 b4 b5 b6:Int}(h0:0<=b0)(h1:b0<=b1)(h2:b1<=b3)(h3:b3<=b4)(h4:b4<=b5)(h5:b5<=b6)(h6:b6<=1):
  (-b0+(0+(b6+(0+(-b3+(0+(0+(0+(0+(0+(b1+0))))))))))<=1)/\(-b0+(0+(b6+(0+(-b3+(0+(b4+(0+(-b5+(0+(b1+0))))))))))<=1)/\
  (-b0+(0+(b6+(0+(0+(0+(0+(0+(-b5+(0+(b1+0))))))))))<=1)/\(-b0+(0+(b6+(0+(0+(0+(0+(0+(0+(0+(0+0))))))))))<=1):=
 ⟨by lia,by lia,by lia,by lia⟩
theorem CK{A n0 n1 n2 n3 n4:Int}(a0:n0≠A)(a1:n1≠A)(a2:n2≠A)(a3:n3≠A)(a4:n4≠A):A<n0\/(n0<A/\A<n1)\/(n1<A/\A<n2)\/(n2<A/\A<n3)\/(n3<A/\A<n4)\/n4<A:=by lia
theorem bJ{N A B x1 x2:Int}{y:Int}(h:(A<N*x1/\A<N*x2)\/(N*x1<A/\N*x2<A)):Up N A B (x1,y) (x2,y)=0:=bM (h.elim .inr .inl)
theorem uQ{N A B w h:Int}(hN:0<N)(hA:gC N A)(w1:5<=w)(h1:6<=h):cyc (Up N A B) (du w h)<=1:=by
 show Up N A B (0,0) (w,0)+(Up N A B (w,0) (w,h)+(Up N A B (w,h) (0,h)+(Up N A B (0,h) (0,3)+(Up N A B (0,3) (w-3,3)+(Up N A B (w-3,3) (w-3,4)+(Up N A B (w-3,4) (1,4)+(Up N A B (1,4) (1,h-1)+(Up N A B (1,h-1) (w-1,h-1)+(Up N A B (w-1,h-1) (w-1,1)+(Up N A B (w-1,1) (0,1)+Up N A B (0,1) (0,0)))))))))))<=1;rw[dj (p:=(w,0)) (q:=(w,h)) hA rfl,dj (p:=(0,h)) (q:=(0,3)) hA rfl,dj (p:=(w-3,3)) (q:=(w-3,4)) hA rfl,dj (p:=(1,4)) (q:=(1,h-1)) hA rfl,dj (p:=(w-1,h-1)) (q:=(w-1,1)) hA rfl,dj (p:=(0,1)) (q:=(0,0)) hA rfl];have m1:N*0<N*1:=Int.mul_lt_mul_of_pos_left (by decide) hN
 have m2:N*1<N*(w-3):=Int.mul_lt_mul_of_pos_left (by lia) hN
 have m3:N*(w-3)<N*(w-1):=Int.mul_lt_mul_of_pos_left (by lia) hN
 have m4:N*(w-1)<N*w:=Int.mul_lt_mul_of_pos_left (by lia) hN
 have y2:N*1<N*3:=Int.mul_lt_mul_of_pos_left (by decide) hN
 have y3:N*3<N*4:=Int.mul_lt_mul_of_pos_left (by decide) hN
 have y4:N*4<N*(h-1):=Int.mul_lt_mul_of_pos_left (by lia) hN
 have y5:N*(h-1)<N*h:=Int.mul_lt_mul_of_pos_left (by lia) hN
 have m23:=Int.lt_trans m2 m3;have m34:=Int.lt_trans m3 m4;have m24:=Int.lt_trans m2 m34;have DP:=Int.lt_trans m1 m2;have m13:=Int.lt_trans m1 m23;have m14:=Int.lt_trans m1 m24;obtain⟨f1,f2,f3,f4⟩:=fin1 (vg B (N*0)).1 (iP (B:=B) (Int.le_of_lt m1)) (iP (B:=B) (Int.le_of_lt y2)) (iP (B:=B) (Int.le_of_lt y3)) (iP (B:=B) (Int.le_of_lt y4)) (iP (B:=B) (Int.le_of_lt y5)) (vg B (N*h)).2;rcases CK (hA 0) (hA 1) (hA (w-3)) (hA (w-1)) (hA w) with z|⟨z,z'⟩|⟨z,z'⟩|⟨z,z'⟩|⟨z,z'⟩|z
 ·rw[bJ (.inl ⟨z,Int.lt_trans z m14⟩),bJ (.inl ⟨Int.lt_trans z m14,z⟩),bJ (.inl ⟨z,Int.lt_trans z DP⟩),bJ (.inl ⟨Int.lt_trans z DP,Int.lt_trans z m1⟩),bJ (.inl ⟨Int.lt_trans z m1,Int.lt_trans z m13⟩),bJ (.inl ⟨Int.lt_trans z m13,z⟩)]
  decide
 ·rw[gM z (Int.lt_trans z' m24),ir z (Int.lt_trans z' m24),gM z (Int.lt_trans z' m2),bJ (.inl ⟨Int.lt_trans z' m2,z'⟩),bJ (.inl ⟨z',Int.lt_trans z' m23⟩),ir z (Int.lt_trans z' m23)];exact f1
 ·rw[gM (Int.lt_trans m1 z) (Int.lt_trans z' m34),ir (Int.lt_trans m1 z) (Int.lt_trans z' m34),gM (Int.lt_trans m1 z) z',ir z z',gM z (Int.lt_trans z' m3),ir (Int.lt_trans m1 z) (Int.lt_trans z' m3)];exact f2
 ·rw[gM (Int.lt_trans DP z) (Int.lt_trans z' m4),ir (Int.lt_trans DP z) (Int.lt_trans z' m4),bJ (.inr ⟨Int.lt_trans DP z,z⟩),bJ (.inr ⟨z,Int.lt_trans m2 z⟩),gM (Int.lt_trans m2 z) z',ir (Int.lt_trans DP z) z'];exact f3
 ·rw[gM (Int.lt_trans m13 z) z',ir (Int.lt_trans m13 z) z',bJ (.inr ⟨Int.lt_trans m13 z,Int.lt_trans m3 z⟩),bJ (.inr ⟨Int.lt_trans m3 z,Int.lt_trans m23 z⟩),bJ (.inr ⟨Int.lt_trans m23 z,z⟩),bJ (.inr ⟨z,Int.lt_trans m13 z⟩)];exact f4
 ·rw[bJ (.inr ⟨Int.lt_trans m14 z,z⟩),bJ (.inr ⟨z,Int.lt_trans m14 z⟩),bJ (.inr ⟨Int.lt_trans m14 z,Int.lt_trans m34 z⟩),bJ (.inr ⟨Int.lt_trans m34 z,Int.lt_trans m24 z⟩),bJ (.inr ⟨Int.lt_trans m24 z,Int.lt_trans m4 z⟩),bJ (.inr ⟨Int.lt_trans m4 z,Int.lt_trans m14 z⟩)]
  decide
theorem um:((Z4 3).all fun i=>(Z4 3).all fun j=>decide (0<area (du (5+(i:Int)) (6+(j:Int)))))=true:=by decide
theorem Sn2.spiral(c:Int):Sn2 (spiral c):=by
 have h:=um;simp only[Y5,Zt,decide_eq_true_eq]at h;have q:=h (c%3).toNat (by lia) (c/3%3).toNat (by lia)
 have e1:(((c%3).toNat:Nat):Int)=c%3:=by lia
 have e2:(((c/3%3).toNat:Nat):Int)=c/3%3:=by lia
 rw[e1,e2]at q;exact pG (cs:=du (5+c%3) (6+c/3%3)) q fun N A B hN hA=>uQ hN hA (by lia) (by lia)
theorem c6.on{F:Pt->Pt->Int}(A:c6 F){a b p:Pt}(h:On a b p):F a b=F a p+F p b:=by
 have:=ln.mp h
 unfold dQ fU at this;simp only[Zc,Xz,decide_eq_true_eq,beq_iff_eq]at this;obtain⟨⟨h1,h2⟩,h3⟩:=this;exact A.add a b p h3 (by lia) (by lia)
theorem v5{F:Pt->Pt->Int}(A:c6 F){cs:List Pt}(lo:3<=cs.length)(c:Int):cyc F (flat cs c)=cyc F cs:=by
 unfold FF.flat;have hat:(c%cs.length).toNat<cs.length:=by
  have h1:=Int.emod_nonneg c (show (cs.length:Int)≠0 by lia)
  have h2:=Int.emod_lt_of_pos c (show (0:Int)<cs.length by lia)
  lia
 generalize (c%cs.length).toNat=t at hat;simp only
 split
 ·rfl
 ·rename_i g hg
  split
  ·rfl
  ·have hm:=gl (YS hg);have k0:=Int.emod_nonneg (c/12) (show g-1≠0 by lia)
   have k1:=Int.emod_lt_of_pos (c/12) (show 0<g-1 by lia)
   have st:=fj hm.1 hm.2.1 hm.2.2 (k:=1+c/12%(g-1)) (by lia) (by lia)
   have hl:(cs.take t++cs.drop t).length=cs.length:=by rw[Zk]
   have a0:at' (cs.drop t++cs.take t) 0=at' cs t:=by
    rw[bf,Zp,if_pos (by lia),br,Nat.add_zero]
   have a1:at' (cs.drop t++cs.take t) (cs.length-1)=at' cs (if t=0 then cs.length-1 else t-1):=by
    rw[bf,Zp];by_cases z:t=0
    ·subst z;rw[if_pos (by lia),br,Nat.zero_add,if_pos rfl]
    ·rw[if_neg (by lia),if_neg z,bE (by lia)]
     congr 1;lia
   have hnil:cs.take t++cs.drop t≠[]:=by
    intro e;have:=congrArg Xx e;rw[hl]at this;rw[YV]at this;lia
   rw[qg F hnil,hl,a0,a1,Zk,A.on st.on];lia
theorem Sn2.flat{cs:List Pt}(S:Sn2 cs)(lo:3<=cs.length)(c:Int):Sn2 (flat cs c):=S.congr fun F A=>(v5 A lo c).symm
theorem c6.led{F:Pt->Pt->Int}(A:c6 F)(T:Tn):c6 fun p q=>F (T.led p) (T.led q):=by
 refine⟨fun p q=>A.anti _ _,fun a b p h1 h2 h3=>?_⟩;refine A.on (On.led T (ln.mpr ?_));unfold dQ fU;simp only[Zc,Xz,decide_eq_true_eq,beq_iff_eq];refine⟨⟨?_,?_⟩,h1⟩<;>lia
noncomputable def jj(g:Pt->Pt)(t:Tri):Tri:=(g t.1,g t.2.1,g t.2.2)
noncomputable def iA(g:Pt->Pt)(t:Tri):Tri:=(g t.1,g t.2.2,g t.2.1)
theorem zK(F:Pt->Pt->Int)(g:Pt->Pt)(t:Tri):tri F (jj g t)=tri (fun p q=>F (g p) (g q)) t:=rfl
theorem yy{F:Pt->Pt->Int}(A:c6 F)(g:Pt->Pt)(t:Tri):tri F (iA g t)=- tri (fun p q=>F (g p) (g q)) t:=by
 have h1:=A.anti (g t.1) (g t.2.1);have h2:=A.anti (g t.2.1) (g t.2.2);have h3:=A.anti (g t.2.2) (g t.1);show F (g t.1) (g t.2.2)+F (g t.2.2) (g t.2.1)+F (g t.2.1) (g t.1)=- (F (g t.1) (g t.2.1)+F (g t.2.1) (g t.2.2)+F (g t.2.2) (g t.1));lia
theorem o8(F:Pt->Pt->Int)(g:Pt->Pt):∀us:List Tri,aO F (us.map (jj g))=aO (fun p q=>F (g p) (g q)) us
 | []=>rfl
 |t::us=>by
  show tri F (jj g t)+aO F (us.map (jj g))=tri _ t+aO _ us;rw[o8 F g us,zK]
theorem nG{F:Pt->Pt->Int}(A:c6 F)(g:Pt->Pt):∀us:List Tri,aO F (us.map (iA g))=- aO (fun p q=>F (g p) (g q)) us
 | []=>rfl
 |t::us=>by
  show tri F (iA g t)+aO F (us.map (iA g))=- (tri _ t+aO _ us);rw[nG A g us,yy A];lia
theorem qt{t:Tri}{u v:Pt}(g:Pt->Pt)(h:bI t u v):bI (jj g t) (g u) (g v):=by
 rcases h with ⟨rfl,rfl⟩|⟨rfl,rfl⟩|⟨rfl,rfl⟩
 ·exact .inl ⟨rfl,rfl⟩
 ·exact .inr (.inl ⟨rfl,rfl⟩)
 ·exact .inr (.inr ⟨rfl,rfl⟩)
theorem nn{t:Tri}{u v:Pt}(g:Pt->Pt)(h:bI t u v):bI (iA g t) (g v) (g u):=by
 rcases h with ⟨rfl,rfl⟩|⟨rfl,rfl⟩|⟨rfl,rfl⟩
 ·exact .inr (.inr ⟨rfl,rfl⟩)
 ·exact .inr (.inl ⟨rfl,rfl⟩)
 ·exact .inl ⟨rfl,rfl⟩
theorem Sng.led1{cs:List Pt}(S:Sng cs){T R:Tn}(hd:R.det=1)(inv:∀p,R.led (T.led p)=p):Sng (cs.map T.led):=by
 intro us one sum i j t s u v lt hi hj s1 s2;refine S (us.map (jj R.led)) (fun t ht=>?_) (fun F A=>?_) i j (jj R.led t) (jj R.led s) (R.led u) (R.led v) lt (by rw[Zj,hi];rfl) (by rw[Zj,hj];rfl) (qt _ s1) (qt _ s2)
 ·obtain⟨t,h,rfl⟩:=Yu.mp ht;show turn (R.led t.1) (R.led t.2.1) (R.led t.2.2)=1;rw[dI,hd,Int.one_mul];exact one t h
 ·rw[o8,sum _ (A.led R),rN];exact jM fun a b _ _=>by rw[inv,inv]
theorem Sng.ledm{cs:List Pt}(S:Sng cs.reverse){T R:Tn}(hd:R.det=-1)(inv:∀p,R.led (T.led p)=p):Sng (cs.map T.led):=by
 intro us one sum i j t s u v lt hi hj s1 s2;refine S (us.map (iA R.led)) (fun t ht=>?_) (fun F A=>?_) i j (iA R.led t) (iA R.led s) (R.led v) (R.led u) lt (by rw[Zj,hi];rfl) (by rw[Zj,hj];rfl) (nn _ s1) (nn _ s2)
 ·obtain⟨t,h,rfl⟩:=Yu.mp ht;show turn (R.led t.1) (R.led t.2.2) (R.led t.2.1)=1
  have:=one t h
  rw[dI,hd];unfold t2 at this;have e:turn t.1 t.2.2 t.2.1=- turn t.1 t.2.1 t.2.2:=by unfold turn;grind
  rw[e,this];rfl
 ·rw[nG A,sum _ (A.led R),rN,gA A];congr 1;exact jM fun a b _ _=>by rw[inv,inv]
noncomputable def uP(T:Tn)(g:Int):Tn:=⟨g*T.d,- (g*T.b),- (g*T.c),g*T.a,- (g*(T.d*T.e-T.b*T.f)),- (g*(T.a*T.f-T.c*T.e))⟩
theorem j3{T:Tn}{g:Int}(h:g*T.det=1)(p:Pt):(uP T g).led (T.led p)=p:=by
 unfold Tn.det at h;unfold uP Tn.led;exact Yy (by dsimp only;grind) (by dsimp only;grind)
theorem kA{T:Tn}{g:Int}(h:g*T.det=1):(uP T g).det=g:=by
 unfold Tn.det at h;unfold uP Tn.det;dsimp only;grind
theorem Sn2.led{cs:List Pt}(S:Sn2 cs){T:Tn}(h:T.det=1\/T.det=-1):Sn2 (cs.map T.led):=by
 rcases h with h|h
 ·have k:(1:Int)*T.det=1:=by rw[h];rfl
  exact⟨S.l.led1 (kA k) (j3 k),by rw[<-YO];exact S.r.led1 (kA k) (j3 k)⟩
 ·have k:(-1:Int)*T.det=1:=by rw[h];rfl
  exact⟨S.r.ledm (kA k) (j3 k),by rw[<-YO];exact Sng.ledm (by rw[Wf];exact S.l) (kA k) (j3 k)⟩
theorem Sn2.swap{cs:List Pt}(S:Sn2 cs):Sn2 (cs.map swp):=by rw[iN];exact S.led (.inr rfl)
theorem qX(ns:List Int)(f:Nat):Sn2 (bK ns f):=by
 have hm:2<=bA (cell ns f)/\bA (cell ns f)<=6:=by
  unfold bA;lia
 have lh:∀i,i<bA (cell ns f)->b_ (cell ns (f+1)) i<bp (cell ns (f+1)) (cell ns (f+2)) i:=fun i _=>by
  have:=cq (cell ns (f+2)) i (show (0:Int)<5 by decide)
  unfold bp;lia
 have g0:Sn2 (joined (bu ns f) (bj ns f) (cell ns f/5%4))/\3<=(joined (bu ns f) (bj ns f) (cell ns f/5%4)).length:=
  ⟨Sn2.joined hm.1 hm.2 (fun i j h _=>iL _ h) lh,(iG hm.1 hm.2 (fun i j h _=>iL _ h) lh).fe.lo⟩
 unfold bK;simp only;have g1:∀cs c d,(Sn2 cs/\3<=cs.length)->(Sn2 (bL cs c d)/\3<=(bL cs c d).length):=by
  intro cs c d G;unfold bL;split;exact⟨Sn2.spiral _,(iD _).fe.lo⟩;exact G
 have g2:∀cs c d,(Sn2 cs/\3<=cs.length)->Sn2 (cY cs c d):=by
  intro cs c d G;unfold cY;split;exact G.1.flat G.2 _;exact G.1
 have g4:∀cs c,Sn2 cs->Sn2 (dz cs c):=by
  intro cs c G;unfold dz;split;exact G.rev;exact G
 have g5:∀cs c,Sn2 cs->Sn2 (gO cs c):=by
  intro cs c G;unfold gO;split;exact G.swap;exact G
 exact g5 _ _ (g4 _ _ ((g2 _ _ _ (g1 _ _ _ g0)).turnBy _))
theorem yB{p q:Int}(hp:0<p)(hq:0<q):Sn2 [(0,0),(p,0),(0,q)]:=by
 refine pG ?_ fun N A B hN hA=>?_
 ·show 0<area [(0,0),(p,0),(0,q)];rw[<-jU]
  have:=Int.mul_pos hp hq
  show 0<cr (0,0) (p,0)+(cr (p,0) (0,q)+cr (0,q) (0,0));unfold cr;dsimp only;lia
 ·show Up N A B (0,0) (p,0)+(Up N A B (p,0) (0,q)+Up N A B (0,q) (0,0))<=1;rw[dj (p:=(0,q)) (q:=(0,0)) hA rfl];have h1:=pB N A B (p,0) (0,q);have h2:Up N A B (0,0) (p,0)<=0:=by
   have m:N*0<N*p:=Int.mul_lt_mul_of_pos_left hp hN;rcases Int.lt_or_gt_of_ne (hA 0) with c|c
   ·exact vc c
   ·rw[bM (.inr ⟨c,Int.lt_trans c m⟩)];decide
  lia
end FF
end
section
namespace FF
noncomputable def dB(u v:Pt):Prop:=∃w,turn u v w=1
theorem Au{a b:Int}(h:a*b=1):a=1\/a=-1:=by
 have:=congrArg Int.natAbs h
 rw[Int.natAbs_mul]at this
 have:=Nat.eq_one_of_mul_eq_one_right this
 omega
theorem wG(A B C:Prop)[Decidable A][Decidable B][Decidable C]:0<(if A then (1:Int) else 0)+(if B then 1 else 0)+(if C then 1 else 0)↔A\/B\/C:=by
 by_cases a:A<;>by_cases b:B<;>by_cases c:C<;>simp[a,b,c]
theorem iZ{u v w p:Pt}(h:turn u v w=1)(z:turn u v p=0):p.1-u.1=turn u p w*(v.1-u.1)/\p.2-u.2=turn u p w*(v.2-u.2):=by
 have i1:(p.1-u.1)*turn u v w=turn u p w*(v.1-u.1)+turn u v p*(w.1-u.1):=by unfold turn;grind
 have i2:(p.2-u.2)*turn u v w=turn u p w*(v.2-u.2)+turn u v p*(w.2-u.2):=by unfold turn;grind
 rw[h,z,Int.mul_one,Int.zero_mul,Int.add_zero]at i1 i2;exact⟨i1,i2⟩
theorem k_{u v:Pt}(P:dB u v):0<(v.1-u.1)*(v.1-u.1)+(v.2-u.2)*(v.2-u.2):=by
 obtain⟨w,h⟩:=P;have h1:=zb (v.1-u.1);have h2:=zb (v.2-u.2);apply Zz;intro c;have z1:(v.1-u.1)*(v.1-u.1)=0:=by omega
 have z2:(v.2-u.2)*(v.2-u.2)=0:=by omega
 have z1:v.1-u.1=0:=by rcases Int.mul_eq_zero.mp z1 with z|z<;>exact z
 have z2:v.2-u.2=0:=by rcases Int.mul_eq_zero.mp z2 with z|z<;>exact z
 unfold turn at h;rw[z1,z2,Int.zero_mul,Int.zero_mul]at h;exact absurd h (by decide)
theorem eY{u v:Pt}(P:dB u v):u≠v:=fun e=>by
 have:=k_ P
 rw[e,Int.sub_self,Int.sub_self]at this;exact absurd this (by decide)
theorem iH{u v p:Pt}{k:Int}(P:dB u v)(e1:p.1-u.1=k*(v.1-u.1))(e2:p.2-u.2=k*(v.2-u.2)):Hp u v p=if 0<k then 1 else 0:=by
 unfold Hp;have e:(v.1-u.1)*(p.1-u.1)+(v.2-u.2)*(p.2-u.2)=k*((v.1-u.1)*(v.1-u.1)+(v.2-u.2)*(v.2-u.2)):=by rw[e1,e2];grind
 have D:=k_ P;rw[e];by_cases c:0<k
 ·rw[if_pos (Int.mul_pos c D),if_pos c]
 ·rw[if_neg (fun h=>c (bC D (by rw[Int.mul_comm];exact h))),if_neg c]
theorem zw{u v p:Pt}{k:Int}(e1:p.1-u.1=k*(v.1-u.1))(e2:p.2-u.2=k*(v.2-u.2)):p=(u.1+k*(v.1-u.1),u.2+k*(v.2-u.2)):=Yy (by show p.1=_;dsimp only;omega) (by show p.2=_;dsimp only;omega)
theorem lG{u v p q:Pt}{k l:Int}(P:dB u v)(e1:p.1-u.1=k*(v.1-u.1))(e2:p.2-u.2=k*(v.2-u.2))(f1:q.1-u.1=l*(v.1-u.1))(f2:q.2-u.2=l*(v.2-u.2)):p=q↔k=l:=by
 refine⟨fun e=>?_,fun e=>by rw[zw e1 e2,zw f1 f2,e]⟩
 have D:=k_ P;rw[e]at e1 e2;have g1:(k-l)*(v.1-u.1)=0:=by rw[Int.sub_mul];omega
 have g2:(k-l)*(v.2-u.2)=0:=by rw[Int.sub_mul];omega
 have:(k-l)*((v.1-u.1)*(v.1-u.1)+(v.2-u.2)*(v.2-u.2))=0:=by grind
 rcases Int.mul_eq_zero.mp this with z|z<;>omega
theorem mG{a b u v:Pt}(Q:dB a b)(P:dB u v):Gs u v a b=(if a=u/\b=v then 1 else 0)-(if a=v/\b=u then 1 else 0):=by
 have tu:turn u v u=0:=by unfold turn;grind
 have tv:turn u v v=0:=by unfold turn;grind
 by_cases c:turn u v a=0/\turn u v b=0
 ·rw[iq c.1 c.2];obtain⟨w,h⟩:=P;obtain⟨e1,e2⟩:=iZ h c.1;obtain⟨f1,f2⟩:=iZ h c.2;have P:dB u v:=⟨w,h⟩;generalize turn u a w=k at *
  generalize turn u b w=l at *
  rw[iH P e1 e2,iH P f1 f2];have lk:l-k=1\/l-k=-1:=by
   obtain⟨c,hc⟩:=Q;have g1:b.1-a.1=(l-k)*(v.1-u.1):=by rw[Int.sub_mul];omega
   have g2:b.2-a.2=(l-k)*(v.2-u.2):=by rw[Int.sub_mul];omega
   unfold turn at hc;rw[g1,g2]at hc
   have:(l-k)*((v.1-u.1)*(c.2-a.2)-(v.2-u.2)*(c.1-a.1))=1:=by rw[<-hc];grind
   exact Au this
  have z1:u.1-u.1=0*(v.1-u.1):=by omega
  have z2:u.2-u.2=0*(v.2-u.2):=by omega
  have o1:v.1-u.1=1*(v.1-u.1):=by omega
  have o2:v.2-u.2=1*(v.2-u.2):=by omega
  have r1:=lG P e1 e2 z1 z2;have r2:=lG P f1 f2 o1 o2;have r3:=lG P e1 e2 o1 o2;have r4:=lG P f1 f2 z1 z2;simp only[r1,r2,r3,r4];clear r1 r2 r3 r4 z1 z2 o1 o2 e1 e2 f1 f2 c;by_cases c1:0<k<;>by_cases c2:0<l<;>by_cases c3:k=0/\l=1<;>by_cases c4:k=1/\l=0<;>simp only[c1,c2,c3,c4,X6,ZK,and_self]<;>omega
 ·rw[fX c,if_neg (fun h=>c (by rw[h.1,h.2];exact⟨tu,tv⟩)),if_neg (fun h=>c (by rw[h.1,h.2];exact⟨tv,tu⟩))];rfl
noncomputable def nst(t:Tri)(u v:Pt):Int:=(if t.1=u/\t.2.1=v then 1 else 0)+(if t.2.1=u/\t.2.2=v then 1 else 0)+(if t.2.2=u/\t.1=v then 1 else 0)
theorem jd{t:Tri}(h:t2 t=1):dB t.1 t.2.1/\dB t.2.1 t.2.2/\dB t.2.2 t.1:=⟨⟨_,h⟩,⟨t.1,by rw[gX];exact h⟩,⟨t.2.1,by rw[<-gX];exact h⟩⟩
theorem BN{t:Tri}{u v:Pt}(h:t2 t=1)(P:dB u v):tri (Gs u v) t=nst t u v-nst t v u:=by
 obtain⟨h1,h2,h3⟩:=jd h;show Gs u v t.1 t.2.1+Gs u v t.2.1 t.2.2+Gs u v t.2.2 t.1=_;rw[mG h1 P,mG h2 P,mG h3 P];unfold nst;omega
theorem wF{t:Tri}{u v:Pt}(h:t2 t=1)(s:bI t u v):dB u v:=by
 obtain⟨h1,h2,h3⟩:=jd h;rcases s with ⟨rfl,rfl⟩|⟨rfl,rfl⟩|⟨rfl,rfl⟩<;>assumption
theorem pS(t:Tri)(u v:Pt):0<=nst t u v:=by unfold nst;split<;>split<;>split<;>decide
theorem sj(t:Tri)(u v:Pt):0<nst t u v↔bI t u v:=by
 unfold nst bI;rw[eq_comm (a:=u) (b:=t.1),eq_comm (a:=v) (b:=t.2.1),eq_comm (a:=u) (b:=t.2.1),eq_comm (a:=v) (b:=t.2.2),eq_comm (a:=u) (b:=t.2.2),eq_comm (a:=v) (b:=t.1)];exact wG _ _ _
theorem BX{t:Tri}{u v:Pt}(h:t2 t=1):nst t u v<=1:=by
 obtain⟨h1,h2,h3⟩:=jd h;have n1:=eY h1;have n2:=eY h2;have n3:=eY h3;unfold nst;by_cases a:t.1=u/\t.2.1=v
 ·have b:¬(t.2.1=u/\t.2.2=v):=fun b=>n1 (a.1.trans b.1.symm);have c:¬(t.2.2=u/\t.1=v):=fun c=>n3 (c.1.trans a.1.symm);rw[if_pos a,if_neg b,if_neg c];decide
 ·by_cases b:t.2.1=u/\t.2.2=v
  ·have c:¬(t.2.2=u/\t.1=v):=fun c=>n2 (b.1.trans c.1.symm);rw[if_neg a,if_pos b,if_neg c];decide
  ·rw[if_neg a,if_neg b];split<;>decide
noncomputable def fS(us:List Tri)(u v:Pt):Int:=match us with
 | []=>0
 |t::us=>nst t u v+fS us u v
theorem vY{u v:Pt}(P:dB u v):∀{us:List Tri},(∀t∈us,t2 t=1)->aO (Gs u v) us=fS us u v-fS us v u
 | [],_=>rfl
 |t::us,h=>by
  show tri (Gs u v) t+aO (Gs u v) us=nst t u v+fS us u v-(nst t v u+fS us v u);rw[BN (h t (Zq ..)) P,vY P fun s hs=>h s (Z8 _ hs)];omega
noncomputable def InS(us:List Tri)(u v:Pt):Prop:=∃t∈us,bI t u v
theorem kj:∀(us:List Tri) (u v:Pt),0<=fS us u v
 | [],_,_=>Int.le_refl _
 |t::us,u,v=>Int.add_nonneg (pS t u v) (kj us u v)
theorem fY:∀{us:List Tri} {u v:Pt},0<fS us u v↔InS us u v
 | [],u,v=>⟨fun h=>absurd h (by show ¬(0:Int)<0;decide),fun ⟨t,h,_⟩=>absurd h Zr⟩
 |t::us,u,v=>by
  have ih:=fY (us:=us) (u:=u) (v:=v);have a:=pS t u v;have b:=kj us u v;have c:=sj t u v;show 0<nst t u v+fS us u v↔_;refine⟨fun h=>?_,fun ⟨s,hs,k⟩=>?_⟩
  ·by_cases z:0<nst t u v
   ·exact⟨t,Zq ..,c.mp z⟩
   ·obtain⟨s,hs,k⟩:=ih.mp (by omega)
    exact⟨s,Z8 _ hs,k⟩
  ·rcases Zx.mp hs with e|e
   ·subst e;have:=c.mpr k;omega
   ·have:=ih.mpr ⟨s,e,k⟩;omega
noncomputable def mX(us:List Tri):Prop:=∀(i j:Nat) (t s:Tri) (u v:Pt),i<j->us[i]?=some t->us[j]?=some s->bI t u v->bI s u v->False
theorem sV:∀{us:List Tri} {u v:Pt},(∀t∈us,t2 t=1)->mX us->fS us u v<=1
 | [],u,v,_,_=>by show (0:Int)<=1;decide
 |t::us,u,v,one,no=>by
  have ih:=sV (us:=us) (u:=u) (v:=v) (fun s hs=>one s (Z8 _ hs)) fun i j t s u v lt hi hj=>no (i+1) (j+1) t s u v (Nat.succ_lt_succ lt) hi hj;have b:=kj us u v;have a:=pS t u v;have l:=BX (u:=u) (v:=v) (one t (Zq ..));show nst t u v+fS us u v<=1;by_cases z:0<nst t u v
  ·have:¬0<fS us u v:=fun h=>by
    obtain⟨s,hs,k⟩:=fY.mp h;obtain⟨j,hj⟩:=VD hs;exact no 0 (j+1) t s u v (Nat.succ_pos _) rfl hj ((sj t u v).mp z) k
   omega
  ·omega
noncomputable def RS(p q u v:Pt):Prop:=∃j:Int,0<=j/\j<gd p q/\u=(p.1+(q.1-p.1)/gd p q*j,p.2+(q.2-p.2)/gd p q*j)/\v=(u.1+(q.1-p.1)/gd p q,u.2+(q.2-p.2)/gd p q)
theorem vW{p q:Pt}:(q.1-p.1)=gd p q*((q.1-p.1)/gd p q)/\(q.2-p.2)=gd p q*((q.2-p.2)/gd p q):=
 ⟨(Int.mul_ediv_cancel' (Int.gcd_dvd_left ..)).symm,(Int.mul_ediv_cancel' (Int.gcd_dvd_right ..)).symm⟩
theorem zA{p q u v:Pt}(ne:p≠q)(h:RS p q u v):dB u v/\Gs u v p q=1/\On p q u/\On p q v:=by
 obtain⟨j,j0,j1,rfl,rfl⟩:=h;have g1:=xf ne;obtain⟨e1,e2⟩:=vW (p:=p) (q:=q);obtain⟨x,y,bz⟩:=bez (q.1-p.1) (q.2-p.2);have bz:x*(q.1-p.1)+y*(q.2-p.2)=gd p q:=bz;generalize (q.1-p.1)/gd p q=d1 at *
 generalize (q.2-p.2)/gd p q=d2 at *
 generalize gd p q=g at *
 have bz:d1*x+d2*y=1:=by
  rw[e1,e2]at bz
  have:g*(d1*x+d2*y)=g*1:=by rw[Int.mul_one,<-bz];grind
  exact Int.eq_of_mul_eq_mul_left (by omega) this
 have P:dB (p.1+d1*j,p.2+d2*j) (p.1+d1*j+d1,p.2+d2*j+d2):=⟨(p.1+d1*j-y,p.2+d2*j+x),by unfold turn;dsimp only;rw[<-bz];grind⟩
 have q1:q.1=p.1+g*d1:=by omega
 have q2:q.2=p.2+g*d2:=by omega
 refine⟨P,?_,⟨g-j,j,by omega,j0,by omega,?_,?_⟩,⟨g-j-1,j+1,by omega,by omega,by omega,?_,?_⟩⟩
 ·rw[iq (by unfold turn;dsimp only;grind) (by unfold turn;dsimp only;rw[q1,q2];grind),iH (k:=g-j) P (by dsimp only;rw[q1];grind) (by dsimp only;rw[q2];grind),iH (k:=-j) P (by dsimp only;grind) (by dsimp only;grind),if_pos (by omega),if_neg (by omega)];rfl
 ·dsimp only;rw[q1];grind
 ·dsimp only;rw[q2];grind
 ·dsimp only;rw[q1];grind
 ·dsimp only;rw[q2];grind
theorem zq{p q u v:Pt}(P:dB u v)(h:0<Gs u v p q):RS p q u v:=by
 by_cases c:turn u v p=0/\turn u v q=0
 ·rw[iq c.1 c.2]at h;obtain⟨w,hw⟩:=P;obtain⟨e1,e2⟩:=iZ hw c.1;obtain⟨f1,f2⟩:=iZ hw c.2;have P:dB u v:=⟨w,hw⟩;generalize turn u p w=k at *
  generalize turn u q w=l at *
  rw[iH P e1 e2,iH P f1 f2]at h;have hl:0<l/\k<=0:=by
   by_cases c1:0<l<;>by_cases c2:0<k<;>simp only[c1,c2,X6,ZK]at h<;>omega
  have d1:q.1-p.1=(l-k)*(v.1-u.1):=by rw[Int.sub_mul];omega
  have d2:q.2-p.2=(l-k)*(v.2-u.2):=by rw[Int.sub_mul];omega
  have g1:Int.gcd (v.1-u.1) (v.2-u.2)=1:=by
   have a:=Int.gcd_dvd_left (v.1-u.1) (v.2-u.2);have b:=Int.gcd_dvd_right (v.1-u.1) (v.2-u.2)
   have:((Int.gcd (v.1-u.1) (v.2-u.2):Nat):Int) ∣ 1:=by
    rw[<-hw];unfold turn;exact Int.dvd_sub (Int.dvd_mul_of_dvd_left a) (Int.dvd_mul_of_dvd_left b)
   have:=Int.natAbs_dvd_natAbs.mpr this
   exact Nat.dvd_one.mp this
  have g:gd p q=l-k:=by
   unfold gd;rw[d1,d2,Int.gcd_mul_left,g1,Nat.mul_one];omega
  refine⟨-k,by omega,by omega,?_,?_⟩
  ·rw[g,d1,d2,Int.mul_ediv_cancel_left _ (by omega),Int.mul_ediv_cancel_left _ (by omega)]
   exact Yy (by dsimp only;rw[Int.mul_neg,Int.mul_comm];omega) (by dsimp only;rw[Int.mul_neg,Int.mul_comm];omega)
  ·rw[g,d1,d2,Int.mul_ediv_cancel_left _ (by omega),Int.mul_ediv_cancel_left _ (by omega)]
   exact Yy (by dsimp only;omega) (by dsimp only;omega)
 ·rw[fX c]at h;exact absurd h (by decide)
theorem ku{a b c z:Pt}(h1:On a b z)(h2:On b c z)(ne:z≠b):Back a b c:=by
 obtain⟨s,t,s0,t0,st,e1,e2⟩:=h1;obtain⟨s',t',s0',t0',st',f1,f2⟩:=h2;have sp:0<s:=by
  apply Zz;intro k;have k:s=0:=by omega
  subst k;exact ne (Yy (Int.eq_of_mul_eq_mul_left (a:=0+t) (by omega) (by rw[<-e1];grind)) (Int.eq_of_mul_eq_mul_left (a:=0+t) (by omega) (by rw[<-e2];grind)))
 have tp:0<t':=by
  apply Zz;intro k;have k:t'=0:=by omega
  subst k;exact ne (Yy (Int.eq_of_mul_eq_mul_left (a:=s'+0) (by omega) (by rw[<-f1];grind)) (Int.eq_of_mul_eq_mul_left (a:=s'+0) (by omega) (by rw[<-f2];grind)))
 exact⟨s*(s'+t'),(s+t)*t',Int.mul_pos sp st',Int.mul_pos st tp,by grind,by grind⟩
theorem yo{a b c d z:Pt}(h1:On a b z)(h2:On c d z):ba a b c d:=by
 obtain⟨s,t,s0,t0,st,e1,e2⟩:=h1;obtain⟨s',t',s0',t0',st',f1,f2⟩:=h2;refine⟨(s'+t')*s,(s'+t')*t,(s+t)*s',(s+t)*t',Int.mul_nonneg (by omega) s0,Int.mul_nonneg (by omega) t0,Int.mul_nonneg (by omega) s0',Int.mul_nonneg (by omega) t0',?_,by grind,by grind,by grind⟩
 rw[<-Int.mul_add];exact Int.mul_pos st' st
theorem rF{n:Nat}{P:Nat->Pt}(F:b8 n P){i j:Nat}(hi:i<n)(hj:j<n)(ne:i≠j){u v:Pt}(uv:u≠v)(a1:On (P i) (P (nx n i)) u)(a2:On (P i) (P (nx n i)) v)(b1:On (P j) (P (nx n j)) u)(b2:On (P j) (P (nx n j)) v):False:=by
 by_cases c1:nx n i=j
 ·subst c1;by_cases z:u=P (nx n i)
  ·exact F.nob i hi (ku a2 b2 fun e=>uv (z.trans e.symm))
  ·exact F.nob i hi (ku a1 b1 z)
 ·by_cases c2:nx n j=i
  ·subst c2;by_cases z:u=P (nx n j)
   ·exact F.nob j hj (ku b2 a2 fun e=>uv (z.trans e.symm))
   ·exact F.nob j hj (ku b1 a1 z)
  ·exact F.nom i j hi hj ne c1 c2 (yo a1 b1)
theorem gv{n k:Nat}(h:k<n):pvN n k<n:=by unfold pvN;split<;>omega
theorem BQ{n k l:Nat}(hk:k<n)(hl:l<n)(e:pvN n k=pvN n l):k=l:=by rw[<-fM hk,e,fM hl]
noncomputable def Rim(cs:List Pt)(u v:Pt):Prop:=∃k,k<cs.length/\RS (at' cs (pvN cs.length k)) (at' cs k) u v
theorem uf{cs:List Pt}(F:aZ cs){k:Nat}(hk:k<cs.length):at' cs (pvN cs.length k)≠at' cs k:=fun e=>by
 have:=F.ok.inj _ _ (gv hk) hk e
 have lo:=F.lo;unfold pvN at this;split at this<;>omega
theorem sG{cs:List Pt}(F:aZ cs){u v:Pt}(h:Rim cs u v):dB u v/\0<cyc (Gs u v) cs:=by
 obtain⟨k,hk,rs⟩:=h;obtain⟨P,g,o1,o2⟩:=zA (uf F hk) rs;have lo:=F.lo;refine⟨P,?_⟩;rw[zp _ (by omega)]
 refine (nJ fun l hl=>?_).mpr ⟨k,hk,by rw[g];decide⟩
 apply Zz;intro c;have A:=wV u v (eY P);have an:=A.anti (at' cs (pvN cs.length l)) (at' cs l);have rs2:=zq (p:=at' cs l) (q:=at' cs (pvN cs.length l)) P (by omega)
 obtain⟨_,_,q1,q2⟩:=zA (fun e=>uf F hl e.symm) rs2;have sw:∀{a b z:Pt},On a b z->On b a z:=fun ⟨s,t,h1,h2,h3,h4,h5⟩=>⟨t,s,h2,h1,by omega,by rw[Int.add_comm t s,<-h4];omega,by rw[Int.add_comm t s,<-h5];omega⟩
 by_cases e:k=l
 ·subst e;omega
 ·refine rF F.ok (gv hk) (gv hl) (fun z=>e (BQ hk hl z)) (eY P) ?_ ?_ ?_ ?_
  ·rw[fM hk];exact o1
  ·rw[fM hk];exact o2
  ·rw[fM hl];exact sw q1
  ·rw[fM hl];exact sw q2
structure Fills(cs:List Pt)(us:List Tri):Prop where
 a:∀u v,InS us u v->InS us v u->¬Rim cs u v
 b:∀u v,InS us u v->¬InS us v u->Rim cs u v
 c:∀u v,Rim cs u v->InS us u v
theorem yO{cs:List Pt}{us:List Tri}(F:aZ cs)(one:∀t∈us,t2 t=1)(sum:∀F,c6 F->aO F us=cyc F cs)(no:mX us):Fills cs us:=by
 have pr:∀{u v},InS us u v->dB u v:=fun ⟨t,ht,k⟩=>wF (one t ht) k;have eq:∀{u v},dB u v->cyc (Gs u v) cs=fS us u v-fS us v u:=fun P=>by rw[<-sum _ (wV _ _ (eY P)),vY P one]
 refine⟨fun u v h k r=>?_,fun u v h k=>?_,fun u v r=>?_⟩
 ·obtain⟨P,g⟩:=sG F r;rw[eq P]at g
  have:=sV (u:=u) (v:=v) one no
  have:=fY.mpr k
  omega
 ·have P:=pr h;have g:=eq P;have k0:¬0<fS us v u:=fun z=>k (fY.mp z);have h0:=fY.mpr h;have lo:=F.lo;rw[zp _ (by omega)]at g
  apply Zz;intro c
  have:S (fun k=>Gs u v (at' cs (pvN cs.length k)) (at' cs k)) cs.length<=0:=by
   have:∀n,n<=cs.length->S (fun k=>Gs u v (at' cs (pvN cs.length k)) (at' cs k)) n<=0:=by
    intro n
    induction n with
    |zero=>intro _;exact Int.le_refl _
    |succ n ih=>
     intro hn;have i:=ih (by omega)
     have:¬0<Gs u v (at' cs (pvN cs.length n)) (at' cs n):=fun z=>c ⟨n,hn,zq P z⟩
     show S _ n+Gs u v (at' cs (pvN cs.length n)) (at' cs n)<=0;omega
   exact this _ (Nat.le_refl _)
  omega
 ·obtain⟨P,g⟩:=sG F r;rw[eq P]at g
  have:=kj us v u
  exact fY.mp (by omega)
theorem Sng.once{cs:List Pt}(S:Sng cs){us:List Tri}(one:∀t∈us,t2 t=1)(sum:∀F,c6 F->aO F us=cyc F cs):mX us:=S us one sum
end FF
end
section
namespace FF
theorem jv{α:Type}[DecidableEq α]:∀{l B:List α},l.Nodup->(∀x∈l,x∈B)->l.length<=B.length
 | [],_,_,_=>Nat.zero_le _
 |x::l,B,nd,h=>by
  obtain⟨n1,n2⟩:=Y4.mp nd;have hx:=h x (Zq ..);have ih:=jv (l:=l) (B:=B.erase x) n2 fun y hy=>(List.mem_erase_of_ne (fun e:y=x=>n1 (by rw[<-e];exact hy))).mpr (h y (Z8 _ hy))
  rw[List.length_erase_of_mem hx]at ih
  have:0<B.length:=List.length_pos_of_mem hx
  show l.length+1<=_;lia
noncomputable def stp(p q:Pt)(j:Nat):Pt×Pt:=((p.1+(q.1-p.1)/gd p q*(j:Int),p.2+(q.2-p.2)/gd p q*(j:Int)),(p.1+(q.1-p.1)/gd p q*(j:Int)+(q.1-p.1)/gd p q,p.2+(q.2-p.2)/gd p q*(j:Int)+(q.2-p.2)/gd p q))
theorem pK{p q u v:Pt}:RS p q u v↔∃j:Nat,j<(gd p q).toNat/\(u,v)=stp p q j:=by
 constructor
 ·rintro⟨j,h0,h1,rfl,rfl⟩;refine⟨j.toNat,by lia,?_⟩
  unfold stp;rw[Int.toNat_of_nonneg h0]
 ·rintro⟨j,h1,e⟩;unfold stp at e;obtain⟨rfl,rfl⟩:=Prod.mk.inj e;exact⟨j,by lia,by lia,rfl,rfl⟩
theorem zO{p q:Pt}(ne:p≠q){i j:Nat}(e:stp p q i=stp p q j):i=j:=by
 obtain⟨e1,e2⟩:=vW (p:=p) (q:=q);unfold stp at e;have h1:=congrArg (fun z:Pt×Pt=>z.1.1) e;have h2:=congrArg (fun z:Pt×Pt=>z.1.2) e;dsimp only at h1 h2;generalize (q.1-p.1)/gd p q=d1 at *
 generalize (q.2-p.2)/gd p q=d2 at *
 have k1:d1*((i:Int)-j)=0:=by rw[Int.mul_sub];lia
 have k2:d2*((i:Int)-j)=0:=by rw[Int.mul_sub];lia
 apply Zz;intro c;rcases Int.mul_eq_zero.mp k1 with z1|z1
 ·rcases Int.mul_eq_zero.mp k2 with z2|z2
  ·rw[z1,Int.mul_zero]at e1;rw[z2,Int.mul_zero]at e2;exact ne (Yy (by lia) (by lia))
  ·lia
 ·lia
theorem nj{α β:Type}{f:α->β}:∀{l:List α},l.Nodup->(∀x∈l,∀y∈l,f x=f y->x=y)->(l.map f).Nodup
 | [],_,_=>XI
 |x::l,nd,h=>by
  obtain⟨n1,n2⟩:=Y4.mp nd;rw[ZI];refine Y4.mpr ⟨fun z=>?_,nj n2 fun a ha b hb=>h a (Z8 _ ha) b (Z8 _ hb)⟩;obtain⟨y,hy,e⟩:=Yu.mp z;exact n1 (h y (Z8 _ hy) x (Zq ..) e ▸ hy)
theorem Ck{p q:Pt}(ne:p≠q){B:List (Pt×Pt)}(h:∀u v,RS p q u v->(u,v)∈B):(gd p q).toNat<=B.length:=by
 have nd:((Z4 (gd p q).toNat).map (stp p q)).Nodup:=nj List.nodup_range fun x _ y _ e=>zO ne e
 have:=jv nd fun x hx=>by
  obtain⟨j,hj,rfl⟩:=Yu.mp hx;exact h _ _ (pK.mpr ⟨j,Zt.mp hj,rfl⟩)
 rw[Z7,Y2]at this;exact this
noncomputable def stT(t:Tri):List (Pt×Pt):=[(t.2.2,t.1),(t.1,t.2.1),(t.2.1,t.2.2)]
noncomputable def dE(us:List Tri):List (Pt×Pt):=us.flatMap stT
theorem mH{t:Tri}{u v:Pt}:(u,v)∈stT t↔bI t u v:=by
 unfold stT bI;simp only[Zx,Zr,or_false,Wl];constructor
 ·rintro (h|h|h)
  ·exact .inr (.inr h)
  ·exact .inl h
  ·exact .inr (.inl h)
 ·rintro (h|h|h)
  ·exact .inr (.inl h)
  ·exact .inr (.inr h)
  ·exact .inl h
theorem gh{us:List Tri}{u v:Pt}:(u,v)∈dE us↔InS us u v:=by
 unfold dE InS;rw[List.mem_flatMap];exact⟨fun ⟨t,h1,h2⟩=>⟨t,h1,mH.mp h2⟩,fun ⟨t,h1,h2⟩=>⟨t,h1,mH.mpr h2⟩⟩
theorem kP:∀us:List Tri,(dE us).length=3*us.length
 | []=>rfl
 |t::us=>by
  show (stT t++dE us).length=3*(us.length+1);rw[Z5,kP us];show 3+_=_;lia
theorem A9{t:Tri}(h:t2 t=1):(stT t).Nodup:=by
 obtain⟨h1,h2,h3⟩:=jd h;have n1:=eY h1;have n2:=eY h2;have n3:=eY h3;unfold stT;refine Y4.mpr ⟨fun z=>?_,Y4.mpr ⟨fun z=>?_,Y4.mpr ⟨Zr,XI⟩⟩⟩
 ·simp only[Zx,Zr,or_false,Wl]at z;rcases z with z|z
  ·exact n3 z.1
  ·exact n2 z.1.symm
 ·simp only[Zx,Zr,or_false,Wl]at z;exact n1 z.1
theorem rV:∀{us:List Tri},(∀t∈us,t2 t=1)->mX us->(dE us).Nodup
 | [],_,_=>XI
 |t::us,one,no=>by
  show (stT t++dE us).Nodup;refine WU.mpr ⟨A9 (one t (Zq ..)),rV (fun s hs=>one s (Z8 _ hs)) (fun i j t s u v lt hi hj=>no (i+1) (j+1) t s u v (Nat.succ_lt_succ lt) hi hj),fun a ha b hb e=>?_⟩;subst e;obtain⟨u,v⟩:=a;obtain⟨s,hs,k⟩:=gh.mp hb;obtain⟨j,hj⟩:=VD hs;exact no 0 (j+1) t s u v (Nat.succ_pos _) rfl hj (mH.mp ha) k
theorem yi{us vs:List Tri}{t:Tri}(nd:(dE (us++t::vs)).Nodup){k:Nat}(hk:k<3):(stT t).getD k ((0,0),(0,0))∉dE us++(stT t).take k:=by
 have e:dE (us++t::vs)=dE us++(stT t++dE vs):=by unfold dE;rw[VO,List.flatMap_cons]
 rw[e,<-Zf]at nd;have nd:=(WU.mp nd).1;have hk':k<(stT t).length:=hk;have e2:dE us++stT t=(dE us++(stT t).take k)++((stT t)[k]::(stT t).drop (k+1)):=by
  rw[Zf,<-X9 hk',Zk]
 rw[e2]at nd;rw[Z2,Z3 hk'];exact fun z=>(WU.mp nd).2.2 _ z _ (Zq ..) rfl
end FF
end
section
namespace FD
open PySem L2 FF
noncomputable abbrev m8:Stmt:=top 49
noncomputable def BY(t:TA):TE:=fun σ H Q=>t σ H fun xs H2=>∃a b,xs=[.ref a,.ref b]/\∀t H',av H2 H'->H' t=some (.tup [.ref a,.ref b])->Q (.ref t) H'
theorem mR{X:Cx}{es:List Expr}{t:TA}{x1}{pos:Pos}(h:PA X es t):PE X (.Tuple es x1 pos) (BY t):=by
 intro aa s σ H Q I hq;refine Wb (thn (h pos aa s σ H _ I hq) fun us s1 zz=>?_);obtain⟨xs,H1,I1,r,i,j,e,q⟩:=zz;subst e;have z:([V.ref i,V.ref j]:List V).length<=sizeLine:=by show 2<=sizeLine;decide
 refine⟨by rw[<-r.length];exact z,?_⟩
 have hn:H1 s1.heap.objs.size=none:=I1.hok.fresh (Nat.le_refl _);refine⟨.ref s1.heap.objs.size,upd H1 s1.heap.objs.size (.tup [.ref i,.ref j]),I1.laid (t':=s1.toks) (fun b o e=>Z_ _ e) (Nat.le_refl _) ?_,rfl,q _ _ (ao hn _) ah⟩;exact⟨z,us,r,⟨_,Zl _ rfl,rfl,_,rfl⟩⟩
noncomputable abbrev bY(L:List (Stp×Addr)):List Stp:=L.map (·.1)
theorem nX{H:Hp}:aU H []:=fun x hx=>by cases hx
theorem mz{H:Hp}{t a b:Addr}{p q:Pt}(h:H t=some (.tup [.ref a,.ref b]))(ha:PtA H a p)(hb:PtA H b q):eI H t (p,q):=⟨a,b,h,ha,hb⟩
theorem aU.same{H H':Hp}{L:List (Stp×Addr)}(h:aU H L)(s:av H H'):aU H' L:=h.mono fun c ys=>s c _
noncomputable def pi(P:Zy)(w:Zm):Sp:=fun vs H Q _=>∃l rf cs,∃B:List (Pt×Pt),vs=[.ref l]/\PLs H l rf cs/\aN cs/\aZ cs/\B.length<=400/\(∀u v,Rim cs u v->(u,v)∈B)/\
 ∀d L ep H',av H H'->H' d=some (DL P w d L ep)->aU H' L->(∀e,e∈bY L↔Rim cs e.1 e.2)->Q (.ref d) H'
theorem Ar{L:List (Stp×Addr)}{e e':Stp}{b:Addr}:e'∈bY (putL L e b)↔e'∈bY L\/e'=e:=by
 unfold putL
 split
 ·rename_i c;exact⟨.inl,fun z=>z.elim id fun z=>by rw[z];exact c⟩
 ·show e'∈(L++[(e,b)]).map (·.1)↔_;rw[ZL,ZH];exact or_congr Iff.rfl (by show e'∈[e]↔_;rw[Zg])
section
variable{P:Zy}{w:Zm}{K:Z1}{mg:Str->Option Value}{base:ZE}{f:Addr}{fd:ZD}
theorem dP:aD ["corners","steps","k","one","x","y","parts_v","j","start"] ["corners"] (au m8):=.mk'
theorem va(F:Fun K "_law_steps" "_law_steps" m8 f fd)(cC:Cal P w K mg base 1 "_law_common" ["one","other"] nV)(C5:mg "len" = none)(C4:mg "range" = none):FnOk P w K mg base CX0 2 f fd ["corners"] (pi P w):=by
 refine F.ok dP (by rintro _ _ _ _⟨_,_,_,_,rfl,_⟩;rfl) fun C6 A outer s H vs Q E hr h=>?_
 obtain⟨l,rf,cs,B,rfl,hp,co,fe,hB,inB,q⟩:=h;have hu:=hr.un;have hu2:A.units+3+2<cLine:=by have:A.units+3+16*1+200<cLine:=hu;lia
 refine⟨_,aq (ay (i:=1) dP.nd (qm P w rfl rfl))
  (aq (dF ZU rfl (dH rfl C4 (pa1 (aE aM rfl C5 ZF (pa1 (pv 0))))) (aI (i:=2) dP.nd rfl (ZQ rfl)) (aq (ay (i:=3) dP.nd (am aF (pv 0) (ag ef (pv 2) ad)))
   (aq (ay (i:=4) dP.nd (ag ef (am aw (am aF (pv 0) (pv 2)) ad) (am aw (pv 3) ad)))
   (aq (ay (i:=5) dP.nd (ag ef (am aw (am aF (pv 0) (pv 2)) ad) (am aw (pv 3) ad)))
   (aq (ay (i:=6) dP.nd (aB cC hr (pa2 (pv 4) (pv 5))))
   (ak (dF ZU rfl (dH rfl C4 (pa1 (pv 6))) (aI (i:=7) dP.nd rfl (ZQ rfl)) (aq (ay (i:=8) dP.nd (fO (pa2 (ag dX (am aw (pv 3) ad) (ag sS (ag dv (pv 4) (pv 6)) (pv 7))) (ag dX (am aw (pv 3) ad) (ag sS (ag dv (pv 5) (pv 6)) (pv 7))))))
    (ak (ph P w rfl rfl hu2 (pv 1) (mR (pa2 (pv 8) (fO (pa2 (ag dX (am aw (pv 8) ad) (ag dv (pv 4) (pv 6))) (ag dX (am aw (pv 8) ad) (ag dv (pv 5) (pv 6))))))) cw rfl))))))))))
  (ak (aC (pv 1)))),?_⟩
 refine fun d hd=>⟨[_,_,_,_,_,_,_,_,_],rfl,?_⟩;have s1:=ao hd (DL P w d [] 0);have h1:(upd H d (DL P w d [] 0)) d=some (DL P w d [] 0):=ah;generalize upd H d (DL P w d [] 0)=H1 at *
 have n12:=fe.hi;have n3:=fe.lo;refine⟨_,rfl,l,_,rfl,.inl (SqL.of (hp.mono s1).1),_,rfl,by lia,by rw[ai];lia,?_⟩
 rw[ai];have e0:((cs.length:Nat):Int).toNat=cs.length:=by lia
 rw[e0];have lenL:∀L:List (Stp×Addr),(bY L).Nodup->(∀e,e∈bY L->Rim cs e.1 e.2)->L.length<=sizeLine:=fun L nd h=>by
  have:=jv nd fun x hx=>inB _ _ (h x hx)
  rw[Z7]at this;exact a_ (by lia)
 refine fJ (fun k σ H'=>∃(L:List (Stp×Addr)) (ep:Nat) (x2 x3 x4 x5 x6 x7 x8:Option V),σ=[some (.ref l),some (.ref d),x2,x3,x4,x5,x6,x7,x8]/\av H H'/\H' d=some (DL P w d L ep)/\aU H' L/\(bY L).Nodup/\∀e,e∈bY L↔∃k',k'<k/\RS (at' cs (pvN cs.length k')) (at' cs k') e.1 e.2)
  ⟨[],0,_,_,_,_,_,_,_,rfl,s1,h1,nX,XI,fun e=>Iff.intro (fun z=>nomatch z) (fun z=>by obtain⟨k',z,_⟩:=z;lia)⟩ ?_ ?_
 ·clear h1 s1;rintro k σ H2 hk ⟨L,ep,x2,x3,x4,x5,x6,x7,x8,rfl,s2,h2,ks,nd,mem⟩;have ei:(0:Int)+(k:Int)=(k:Int):=by lia
  rw[ei];have hp2:=hp.mono s2;have p1:=FD.gv hk;have ne:=uf fe hk;have g1:=xf ne;have gB:=Ck ne (B:=B) fun u v h=>inB _ _ ⟨k,hk,h⟩;refine⟨_,rfl,_,rfl,_,_,rfl,rfl,l,_,_,_,rfl,rfl,SqL.of hp2.1,gu hk,[_,_,_,_,_,_,_,_,_],rfl,?_⟩;refine⟨_,rfl,_,rfl,l,_,_,_,rfl,rfl,SqL.of hp2.1,bS hk,_,_,_,_,rfl,rfl,SqT.of (hp2.2 _ hk),at0,_,rfl,_,_,_,_,rfl,rfl,SqT.of (hp2.2 _ p1),at0,_,_,rfl,rfl,[_,_,_,_,_,_,_,_,_],rfl,?_⟩;refine⟨_,rfl,_,rfl,l,_,_,_,rfl,rfl,SqL.of hp2.1,bS hk,_,_,_,_,rfl,rfl,SqT.of (hp2.2 _ hk),at1,_,rfl,_,_,_,_,rfl,rfl,SqT.of (hp2.2 _ p1),at1,_,_,rfl,rfl,[_,_,_,_,_,_,_,_,_],rfl,?_⟩;refine⟨_,rfl,_,rfl,_,_,rfl,[_,_,_,_,_,_,_,_,_],rfl,?_⟩;have eG:(((Int.gcd ((at' cs k).1-(at' cs (pv_ cs.length k)).1) ((at' cs k).2-(at' cs (pv_ cs.length k)).2):Nat):Int))=gd (at' cs (pvN cs.length k)) (at' cs k):=rfl;rw[eG];have mem2:∀e,e∈bY L->Rim cs e.1 e.2:=fun e he=>by
   obtain⟨k',h1,h2⟩:=(mem e).mp he;exact⟨k',by lia,h2⟩
  have hpp:PtA H2 (rf (pv_ cs.length k)) (at' cs (pvN cs.length k)):=hp2.2 _ p1;have rimk:∀e,(∃j:Nat,j<(gd (at' cs (pvN cs.length k)) (at' cs k)).toNat/\e=stp (at' cs (pvN cs.length k)) (at' cs k) j)->RS (at' cs (pvN cs.length k)) (at' cs k) e.1 e.2:=fun e z=>pK.mpr z;refine⟨_,rfl,_,rfl,by lia,by lia,?_⟩
  refine fJ (fun j σ H'=>∃(L:List (Stp×Addr)) (ep:Nat) (x7 x8:Option V),σ=[some (.ref l),some (.ref d),some (.int (k:Int)),some (.ref (rf (pv_ cs.length k))),some (.int ((at' cs k).1-(at' cs (pv_ cs.length k)).1)),some (.int ((at' cs k).2-(at' cs (pv_ cs.length k)).2)),some (.int (gd (at' cs (pvN cs.length k)) (at' cs k))),x7,x8]/\av H H'/\H' d=some (DL P w d L ep)/\aU H' L/\(bY L).Nodup/\
    ∀e,e∈bY L↔(∃k',k'<k/\RS (at' cs (pvN cs.length k')) (at' cs k') e.1 e.2)\/∃j',j'<j/\e=stp (at' cs (pvN cs.length k)) (at' cs k) j')
   ⟨L,ep,_,_,rfl,s2,h2,ks,nd,fun e=>by rw[mem e];exact⟨.inl,fun z=>z.elim id fun ⟨_,z,_⟩=>absurd z (by lia)⟩⟩ ?_ ?_
  ·clear h2 ks nd mem mem2 hpp s2 hp2;rintro j σ H3 hj ⟨L,ep,x7,x8,rfl,s3,h3,ks,nd,mem⟩;have ej:(0:Int)+(j:Int)=(j:Int):=by lia
   rw[ej];have hpp:PtA H3 (rf (pv_ cs.length k)) (at' cs (pvN cs.length k)):=(hp.mono s3).2 _ p1;have cd:∀i:Int,yF i (gd (at' cs (pvN cs.length k)) (at' cs k)):=fun i=>⟨by lia,by lia⟩
   have cm:∀i:Int,oP i (j:Int):=fun i=>.inr ⟨by lia,by lia⟩
   refine⟨_,rfl,_,_,_,_,rfl,rfl,SqT.of hpp,at0,_,rfl,_,rfl,_,_,rfl,rfl,cd _,_,rfl,_,_,rfl,rfl,cm _,_,_,rfl,rfl,?_⟩;refine⟨_,rfl,_,_,_,_,rfl,rfl,SqT.of hpp,at1,_,rfl,_,rfl,_,_,rfl,rfl,cd _,_,rfl,_,_,rfl,rfl,cm _,_,_,rfl,rfl,_,_,rfl,fun st H4 s4 p4=>⟨[_,_,_,_,_,_,_,_,_],rfl,?_⟩⟩;have h4:=s4 _ _ h3;have k4:=aU.same ks s4;have s4:=s3.trans s4;clear h3 ks hpp s3;refine⟨_,rfl,_,rfl,?_⟩;refine⟨_,rfl,_,_,_,_,rfl,rfl,SqT.of p4,at0,_,rfl,_,rfl,_,_,rfl,rfl,cd _,_,_,rfl,rfl,?_⟩;refine⟨_,rfl,_,_,_,_,rfl,rfl,SqT.of p4,at1,_,rfl,_,rfl,_,_,rfl,rfl,cd _,_,_,rfl,rfl,_,_,rfl,fun en H5 s5 p5=>?_⟩;refine⟨_,_,rfl,fun ky H6 s6 h6=>?_⟩;have s56:=s5.trans s6;have kk:eI H6 ky (stp (at' cs (pvN cs.length k)) (at' cs k) j):=mz h6 (s56 _ _ p4) (s6 _ _ p5);have ml:L.length<=sizeLine:=lenL L nd fun e he=>by
    rcases (mem e).mp he with ⟨k',h1,h2⟩|⟨j',h1,h2⟩
    ·exact⟨k',by lia,h2⟩
    ·exact⟨k,hk,rimk e ⟨j',by lia,h2⟩⟩
   have h6':=s56 _ _ h4;have k6:=aU.same k4 s56;refine⟨d,ky,_,L,ep,rfl,rfl,rfl,h6',k6,kk,ml,fun ep'=>⟨_,ep',_,_,rfl,FD.av.updN (s4.trans s56) hd,ah,(k6.put kk).mono (mJ (pf h6')),sq nd,fun e=>?_⟩⟩;rw[Ar,mem e,or_assoc];refine or_congr Iff.rfl ⟨fun z=>?_,fun ⟨j',z1,z2⟩=>?_⟩
   ·rcases z with ⟨j',z1,z2⟩|z
    ·exact⟨j',by lia,z2⟩
    ·exact⟨j,by lia,z⟩
   ·by_cases c:j'=j
    ·subst c;exact .inr z2
    ·exact .inl ⟨j',by lia,z2⟩
  ·rintro σ H3 ⟨L,ep,x7,x8,rfl,s3,h3,ks,nd,mem⟩;refine⟨L,ep,_,_,_,_,_,_,_,rfl,s3,h3,ks,nd,fun e=>?_⟩;rw[mem e];refine⟨fun z=>?_,fun ⟨k',z1,z2⟩=>?_⟩
   ·rcases z with ⟨k',z1,z2⟩|z
    ·exact⟨k',by lia,z2⟩
    ·exact⟨k,by lia,rimk e z⟩
   ·by_cases c:k'=k
    ·subst c;exact .inr (pK.mp z2)
    ·exact .inl ⟨k',by lia,z2⟩
 ·rintro σ H2 ⟨L,ep,x2,x3,x4,x5,x6,x7,x8,rfl,s2,h2,ks,nd,mem⟩;refine⟨[_,_,_,_,_,_,_,_,_],rfl,_,rfl,q d L ep H2 s2 h2 ks mem⟩
end
end FD
end
section
namespace L2
open PySem PySem.Spec PyProof.Rows
section
variable{X:Cx}
open Classical in
noncomputable def ptE(H:Hp)(p:Int×Int):Value->Bool
 | .ref b=>decide (H b=some (.tup [.int p.1,.int p.2]))
 |_=>false
noncomputable def Bb(K:Z1):R2:=fun x y H Q=>∃(a b:Addr) (p r:Int×Int),x=.ref a/\y=.ref b/\H a=some (.tup [.int p.1,.int p.2])/\H b=some (.tup [.int r.1,.int r.2])/\Q (.bl (!decide (p=r))) H
theorem BU(hu:X.A.units+5<cLine):OpR X (compareOp .NotEq) (Bb X.K):=by
 intro aa s σ H x y v u Q I rx ry h;obtain⟨a,b,p,r,rfl,rfl,h1,h2,q⟩:=h;cases rx;cases ry;obtain⟨i1,r1,p1,_⟩:=I.tuple (SqT.of (K:=X.K) h1);obtain⟨i2,r2,p2,_⟩:=I.tuple (SqT.of (K:=X.K) h2);cases r1 with
 |cons r1 t1=>
  cases t1 with
  |cons r1' t1=>
   cases t1;cases r2 with
   |cons r2 t2=>
    cases t2 with
    |cons r2' t2=>
     cases t2;obtain⟨k1,rfl⟩:=r1;obtain⟨k1',rfl⟩:=r1';obtain⟨k2,rfl⟩:=r2;obtain⟨k2',rfl⟩:=r2';refine Sq (A:=X.A) (s:=s) (e:=fun j=>if j=0 then p.1==r.1 else p.2==r.2) (show s.heap.IsTuple a _ from p1) (show s.heap.IsTuple b _ from p2) (by lia) (fun j j1 j2=>?_) _ _ _ _ ⟨.bl (!decide (p=r)),H,I,?_,q⟩
     ·match j,j1 with
      |0,_=>exact Xl p.1 k1 r.1 k2
      |1,_=>exact Xl p.2 k1' r.2 k2'
     ·have e:((Z4 2).all (fun j=>if j=0 then p.1==r.1 else p.2==r.2)&&true)=decide (p=r):=by
       rw[XX];show ((p.1==r.1)&&((p.2==r.2)&&true))=_;rw[XX,ZP];simp only[Zc,beq_iff_eq,decide_eq_true_eq];exact⟨fun e=>Yy e.1 e.2,fun e=>by rw[e];exact⟨rfl,rfl⟩⟩
      show Value.bool (!((Z4 2).all (fun j=>if j=0 then p.1==r.1 else p.2==r.2)&&true))=Value.bool (!decide (p=r))
      rw[e]
end
end L2
end
section
namespace FD
open PySem L2 FF
noncomputable abbrev ng:Stmt:=top 37
section
variable{P:Zy}{w:Zm}{K:Z1}{mg:Str->Option Value}{base:ZE}{f:Addr}{fd:ZD}
theorem oZ:aD ["one","other","third","left"] ["one","other","third"] (au ng):=.mk'
theorem wH{n:Nat}(F:Fun K "_law_cross" "_law_cross" ng f fd):FnOk P w K mg base CX0 (n+1) f fd ["one","other","third"] fR:=by
 refine F.ok oZ (by rintro _ _ _ _⟨a,b,c,pa,pb,pc,rfl,_⟩;rfl) fun C6 A outer s H vs Q E hr h=>?_
 obtain⟨a,b,c,pa,pb,pc,rfl,ha,hb,hc,ca,cb,cc,q⟩:=h;refine⟨_,ax (ay (i:=3) oZ.nd (ag bQ (ag aS (am aw (pv 1) ad) (am aw (pv 0) ad)) (ag aS (am aw (pv 2) ad) (am aw (pv 0) ad))))
  (ak (aC (ag aS (pv 3) (ag bQ (ag aS (am aw (pv 1) ad) (am aw (pv 0) ad)) (ag aS (am aw (pv 2) ad) (am aw (pv 0) ad)))))),?_⟩
 refine⟨_,rfl,b,_,_,_,rfl,rfl,SqT.of hb,at0,_,rfl,a,_,_,_,rfl,rfl,SqT.of ha,at0,_,_,rfl,rfl,_,rfl,c,_,_,_,rfl,rfl,SqT.of hc,at1,_,rfl,a,_,_,_,rfl,rfl,SqT.of ha,at1,_,_,rfl,rfl,_,_,rfl,rfl,⟨fZ cb.1 ca.1,fZ cc.2 ca.2⟩,?_⟩;exact⟨_,rfl,_,rfl,b,_,_,_,rfl,rfl,SqT.of hb,at1,_,rfl,a,_,_,_,rfl,rfl,SqT.of ha,at1,_,_,rfl,rfl,_,rfl,c,_,_,_,rfl,rfl,SqT.of hc,at0,_,rfl,a,_,_,_,rfl,rfl,SqT.of ha,at0,_,_,rfl,rfl,_,_,rfl,rfl,⟨fZ cb.2 ca.2,fZ cc.1 ca.1⟩,_,_,rfl,rfl,q⟩
end
end FD
end
section
namespace L2
open PySem PySem.Spec PyProof.Rows
section
variable{X:Cx}
end
end L2
end
section
namespace L2
open PySem PySem.Spec PyProof.Rows
theorem iw{K:Z1}{a:Addr}{n:Nat}{rf:Nat->Addr}{ae:List Nat}{tt:TT}{σ:St}{H:Hp}{R:Addr->List V->Hp->Prop}(b:Nat->Bool)(hn:n<=sizeLine)(hl:SqL K H a ((Z4 n).map fun i=>V.ref (rf i)))
  (ht:∀i,i<n->∀Qb:Bool->Hp->Prop,Qb (b i) H->tt ((compσ 1 ae σ).set 0 (some (.ref (rf i)))) H Qb)
  (hd:∀D,H D=none->R D (((Z4 n).filter b).map fun i=>V.ref (rf i)) H):
  ∃(n:Nat) (W:Nat->List V->Hp->Prop),n<=sizeLine/\W 0 [] H/\(∀ys H,W n ys H->(Itl K a).stop n H/\∀D,H D=none->R D ys H)/\
   ∀i ys H,i<n->W i ys H->(Itl K a).go i H/\∀x H',(Itl K a).yld i H x H'->bW 0 x (compσ 1 ae σ) H' fun σ2 H2=>dr 1 ae σ σ2/\tt σ2 H2 fun b H3=>if b=true then dO 0 σ2 H3 fun v H4=>W (i+1) (ys++[v]) H4 else W (i+1) ys H3:=by
 refine⟨n,fun i ys H'=>H'=H/\ys=((Z4 i).filter b).map fun i=>V.ref (rf i),hn,⟨rfl,rfl⟩,?_,?_⟩
 ·rintro ys H' ⟨rfl,rfl⟩;exact⟨⟨_,hl,by rw[Z7,Y2];exact Nat.le_refl _⟩,hd⟩
 ·rintro i ys H' hi ⟨rfl,rfl⟩;have hg:((Z4 n).map fun i=>V.ref (rf i))[i]?=some (.ref (rf i)):=by rw[Zj,YY hi];rfl
  refine⟨⟨_,_,hl,hg⟩,fun x H2 hy=>?_⟩;obtain⟨rfl,hy⟩:=hy;have hx:=hy _ hl;rw[hg]at hx;cases hx;refine⟨fP (by decide),ht i hi _ ?_⟩
  have step:(((Z4 (i+1)).filter b).map fun i=>V.ref (rf i))=(((Z4 i).filter b).map fun i=>V.ref (rf i))++(if b i=true then [.ref (rf i)] else []):=by
   rw[Xg,XZ,ZL,XO,Vj]
   split<;>rfl
  cases hb:b i with
  |true=>
   refine dt ⟨.ref (rf i),by simp[compσ],rfl,?_⟩
   show _=(((Z4 (i+1)).filter b).map fun i=>V.ref (rf i));rw[step,if_pos hb]
  |false=>
   refine eH ⟨rfl,?_⟩;show _=(((Z4 (i+1)).filter b).map fun i=>V.ref (rf i));rw[step,if_neg (by rw[hb];decide),ZJ]
end L2
end
section
namespace L2
open PySem PySem.Spec PyProof.Rows
section
variable{X:Cx}
noncomputable def r6(K:Z1):R2:=fun x y H Q=>∃(a l:Addr) (p:Int×Int) (rf:Nat->Addr) (DK:Nat->Int×Int) (n:Nat),x=.ref a/\y=.ref l/\H a=some (.tup [.int p.1,.int p.2])/\SqL K H l ((Z4 n).map fun i=>V.ref (rf i))/\
 (∀i,i<n->H (rf i)=some (.tup [.int (DK i).1,.int (DK i).2]))/\Q (.bl (!(Z4 n).any fun i=>decide (DK i=p))) H
theorem u7(hu:X.A.units+5<cLine):OpR X (compareOp .NotIn) (r6 X.K):=by
 intro aa s σ H x y v u Q I rx ry h;obtain⟨a,l,p,rf,DK,n,rfl,rfl,ha,hl,hp,q⟩:=h;cases rx;cases ry;obtain⟨f',r,pl,hz⟩:=I.list hl;have hlen:=r.length;rw[Z7,Y2]at hlen;have its_at:∀i (hi:i<f'.length),f'[i]=.ref (rf i):=by
  intro i hi;obtain⟨u,eu,ru⟩:=r.get (i:=i) (x:=.ref (rf i)) (by rw[Zj,YY (by lia)];rfl)
  rw[Z3 hi]at eu;have e1:=Ze eu;rw[e1];exact ru
 have key:∀i,i<n->ptE H p (.ref (rf i))=decide (DK i=p):=by
  intro i hi;unfold ptE;rw[ZP];simp only[decide_eq_true_eq];rw[hp i hi];constructor
  ·intro e;simp only[Option.some.injEq,HO.tup.injEq,Xd,V.int.injEq,and_true]at e;exact Yy e.1 e.2
  ·intro e;rw[e]
 refine SeqAt.notIn_listAt (ptE H p) pl.isList (fun w hw=>?_) ⟨.bl _,H,I,rfl,?_⟩
 ·obtain⟨i,hi,e⟩:=Array.mem_iff_getElem.mp hw;have hi':i<f'.length:=by simpa using hi
  have e2:w=.ref (rf i):=by rw[<-e];simpa using its_at i hi'
  subst e2;rw[key i (by lia)]
  have:=(Cmp.pt (K:=X.K) (SqT.of (hp i (by lia))) (SqT.of ha)).at I (A:=X.A.in1) (u:=.ref (rf i)) (v:=.ref a) rfl rfl (by show X.A.units+1+1<cLine;lia)
  have e3:decide (DK i=p)=decide ((DK i).1=p.1/\(DK i).2=p.2):=by
   rw[ZP];simp only[decide_eq_true_eq];exact⟨fun e=>by rw[e];exact⟨rfl,rfl⟩,fun e=>Yy e.1 e.2⟩
  rw[e3];exact this
 ·have:f'.toArray.any (ptE H p)=(Z4 n).any fun i=>decide (DK i=p):=by
   rw[ZP];simp only[List.any_toArray,YD,Zt];constructor
   ·rintro⟨w,hw,e⟩;obtain⟨i,hi,e1⟩:=VC.mp hw;rw[its_at i hi]at e1;subst e1;exact⟨i,by lia,by rw[<-key i (by lia)];exact e⟩
   ·rintro⟨i,hi,e⟩;have hi':i<f'.length:=by lia
    exact⟨.ref (rf i),by rw[<-its_at i hi'];exact XN hi',by rw[key i hi];exact e⟩
  rw[this];exact q
theorem uC{K:Z1}(hK:X.K=K)(hu:X.A.units+5<cLine):OpR X (compareOp .NotIn) (r6 K):=hK ▸ u7 hu
theorem AB{K:Z1}(hK:X.K=K)(hu:X.A.units+5<cLine):OpR X (compareOp .NotEq) (Bb K):=hK ▸ BU hu
end
end L2
end
section
namespace L2
open PySem PySem.Spec PyProof.Rows
section
variable{X:Cx}
theorem mV(hc:X.calm=true):cZ X (.builtin "all") (fun xs H Q=>∃(p:Addr) (bs:List Bool),xs=[.ref p]/\SqL X.K H p (bs.map V.bl)/\Q (.bl (bs.all id)) H):=by
 intro aa s σ H xs us Q I r h;obtain⟨p,bs,rfl,hq,q⟩:=h;obtain⟨u,rfl,ra⟩:=vals1 r;cases ra;obtain⟨f',rv,pl,hz⟩:=I.list hq;have hl:=rv.length;rw[Z7]at hl;refine call_all_walk (XC pl.isList ?_);refine⟨s.heap.objs.size,_,_,_,_,_,fun i=>bs.getD i true,rfl,jJ I pl hc,⟨⟨_,Zl _ rfl,rfl,rfl⟩,pl.isList.push _⟩,fun i v s' Q' E' e hq'=>?_,fun h' tk kp=>?_⟩
 ·have e:f'.toArray[i]?=some v:=e;rw[Yw]at e;have hi:i<bs.length:=by have:=(Zh.mp e).1;lia
  obtain⟨u,eu,ru⟩:=rv.get (i:=i) (x:=.bl bs[i]) (by rw[Zj,Z3 hi];rfl)
  rw[e]at eu;cases eu;cases ru;refine Ye ?_
  have:bs.getD i true=bs[i]:=by rw[Z2,Z3 hi];rfl
  rw[<-this];exact hq'
 ·have e:(Z4 f'.toArray.size).all (fun i=>bs.getD i true)=bs.all id:=by
   rw[Z9,<-hl,ZP,Y5,Y5];constructor
   ·intro h b hb;obtain⟨i,hi,rfl⟩:=Yv hb
    have:=h i (Zt.mpr hi)
    rwa [Z2,Z3 hi]at this
   ·intro h i hi;have hi:=Zt.mp hi;rw[Z2,Z3 hi];exact h _ (XN hi)
  rw[e];exact⟨.bl (bs.all id),H,I.kept fun b o eb=>kp b o (by simp only[Zx,Zr,or_false];exact Nat.ne_of_lt (Zu eb)) (Z_ _ eb),rfl,q⟩
end
end L2
end
section
namespace FD
open PySem L2 FF
noncomputable abbrev ur:Stmt:=top 26
noncomputable abbrev lR:Stmt:=top 30
noncomputable abbrev jn:Stmt:=top 29
noncomputable abbrev iJ:Stmt:=top 28
noncomputable abbrev lV:Stmt:=top 27
noncomputable abbrev k7:Stmt:=top 31
noncomputable abbrev o9:Stmt:=top 32
noncomputable abbrev i6:Stmt:=top 33
noncomputable def jG:Sp:=fun vs H Q _=>∃l rf t,vs=[.ref l]/\PLs H l rf (t3 t)/\aN (t3 t)/\Q (.int (t2 t)) H
noncomputable def s_:Sp:=fun vs H Q _=>∃l rf t pt p,vs=[.ref l,.ref pt]/\PLs H l rf (t3 t)/\aN (t3 t)/\PtA H pt p/\Co p/\∀H',av H H'->Q (.bl (c7 t.1 t.2.1 t.2.2 p)) H'
noncomputable def rZ:Sp:=fun vs H Q _=>∃l rf t r rg cs,vs=[.ref l,.ref r]/\PLs H l rf (t3 t)/\aN (t3 t)/\PLs H r rg cs/\aN cs/\cs.length<=400/\∀H',av H H'->Q (.bl (gF cs t.1 t.2.1 t.2.2)) H'
theorem a30{t:Tri}{rf:Nat->Addr}:atI (aj (t3 t).length rf) 0=some (.ref (rf 0)):=rfl
theorem a31{t:Tri}{rf:Nat->Addr}:atI (aj (t3 t).length rf) 1=some (.ref (rf 1)):=rfl
theorem a32{t:Tri}{rf:Nat->Addr}:atI (aj (t3 t).length rf) 2=some (.ref (rf 2)):=rfl
theorem p30{H:Hp}{l:Addr}{rf:Nat->Addr}{t:Tri}(h:PLs H l rf (t3 t)):PtA H (rf 0) t.1:=h.2 0 (show 0<3 by decide)
theorem p31{H:Hp}{l:Addr}{rf:Nat->Addr}{t:Tri}(h:PLs H l rf (t3 t)):PtA H (rf 1) t.2.1:=h.2 1 (show 1<3 by decide)
theorem p32{H:Hp}{l:Addr}{rf:Nat->Addr}{t:Tri}(h:PLs H l rf (t3 t)):PtA H (rf 2) t.2.2:=h.2 2 (show 2<3 by decide)
theorem c30{t:Tri}(h:aN (t3 t)):Co t.1:=h 0 (show 0<3 by decide)
theorem c31{t:Tri}(h:aN (t3 t)):Co t.2.1:=h 1 (show 1<3 by decide)
theorem c32{t:Tri}(h:aN (t3 t)):Co t.2.2:=h 2 (show 2<3 by decide)
theorem l5{K:Z1}{a:Addr}{n own:Nat}{rf:Nat->Addr}{ae:List Nat}{g:TG}{te:TE}{σ:L2.St}{H:Hp}{R:Addr->Hp->Prop}(b:Nat->Bool)(hn:n<=1000)(hl:H a=some (.lst (aj n rf)))
  (he:∀i,i<n->∀H',av H H'->∀Q':VK,(∀H'',av H' H''->Q' (.bl (b i)) H'')->g (.ref (rf i)) (compσ own ae σ) H' fun σ2 H2=>dr own ae σ σ2/\(if true=true then te σ2 H2 Q' else False))
  (gm:∀x σ H Q Q',(∀s h,Q s h->Q' s h)->g x σ H Q->g x σ H Q')
  (hd:∀D H',av H H'->H' D=none->R D (upd H' D (.lst (((Z4 n).map b).map V.bl)))):
  ∃(n:Nat) (W:Nat->List V->Hp->Prop),n<=sizeLine/\W 0 [] H/\(∀ys H,W n ys H->(Itl K a).stop n H/\∀D,H D=none->R D (upd H D (.lst ys)))/\
   ∀i ys H,i<n->W i ys H->(Itl K a).go i H/\∀x H',(Itl K a).yld i H x H'->g x (compσ own ae σ) H' fun σ2 H2=>dr own ae σ σ2/\(fun _ H Q=>Q true H:TT) σ2 H2 fun b H3=>if b=true then te σ2 H3 fun v H4=>W (i+1) (ys++[v]) H4 else W (i+1) ys H3:=by
 refine⟨n,fun i ys H'=>av H H'/\ys=((Z4 i).map b).map V.bl,a_ hn,⟨av.refl _,rfl⟩,fun ys H' hW=>⟨⟨aj n rf,SqL.of (hW.1 _ _ hl),by rw[ai];exact Nat.le_refl _⟩,fun D hD=>?_⟩,fun i ys H' hi hW=>⟨⟨aj n rf,_,SqL.of (hW.1 _ _ hl),aR hi⟩,fun x H3 hy=>?_⟩⟩
 ·obtain⟨sW,rfl⟩:=hW;exact hd D H' sW hD
 ·obtain⟨sW,rfl⟩:=hW;obtain⟨rfl,hy⟩:=hy;obtain⟨_,rfl⟩:=bU (hy _ (SqL.of (sW _ _ hl)));refine gm _ _ _ _ _ (fun σ2 H2 z=>⟨z.1,z.2⟩) (he i hi _ sW (fun v H4=>av H H4/\((Z4 i).map b).map V.bl++[v]=((Z4 (i+1)).map b).map V.bl) fun H'' Dh=>⟨sW.trans Dh,?_⟩);rw[Xg,ZL,ZL];rfl
theorem bN(cs:List Pt)(j:Nat):at' cs j=cs.getD j (0,0):=rfl
theorem kM(cs:List Pt):cs=(Z4 cs.length).map (at' cs):=by
 refine Wq (by simp) fun i h1 h2=>?_
 rw[Uk,U4];unfold at';rw[Z2,Z3 h1];rfl
theorem i5{H H':Hp}{l D:Addr}{rf:Nat->Addr}{cs:List Pt}(h:PLs H l rf cs)(pb:Pt->Bool)(s:av H H')(hD:H' D=some (.lst (((Z4 cs.length).filter fun i=>pb (at' cs i)).map fun i=>V.ref (rf i)))):∃rg,PLs H' D rg (cs.filter pb):=by
 have e:cs.filter pb=((Z4 cs.length).filter fun i=>pb (at' cs i)).map (at' cs):=by
  have h1:=congrArg (Ug pb) (kM cs);rw[Wc]at h1;exact h1
 have hm:∀i∈(Z4 cs.length).filter (fun i=>pb (at' cs i)),i<cs.length:=fun i hi=>Zt.mp (ZG.mp hi).1;rw[e];generalize (Z4 cs.length).filter (fun i=>pb (at' cs i))=js at *
 refine⟨fun j=>rf (js.getD j 0),?_,fun j hj=>?_⟩
 ·rw[hD,Z7];congr 2;refine Wq (by simp[aj]) fun i h1 h2=>?_
  have hi:i<js.length:=by simpa using h1
  simp only[aj,Uk,U4];rw[Z2,Z3 hi];rfl
 ·rw[Z7]at hj;have e2:at' (js.map (at' cs)) j=at' cs (js.getD j 0):=by
   rw[bN,Z2,Zj,Z2,Z3 hj];rfl
  rw[e2];exact s _ _ (h.2 _ (hm _ (by rw[Z2,Z3 hj];exact XN hj)))
section
variable{P:Zy}{w:Zm}{K:Z1}{mg:Str->Option Value}{base:ZE}{f:Addr}{fd:ZD}
theorem BT:aD ["triangle"] ["triangle"] (au ur):=.mk'
theorem AL(F:Fun K "doubled_area" "doubled_area" ur f fd)(cT:Cal P w K mg base 1 "turn" ["start","end","point"] fR):FnOk P w K mg base CX0 2 f fd ["triangle"] jG:=by
 refine F.ok BT (by rintro _ _ _ _⟨_,_,_,rfl,_⟩;rfl) fun C6 A outer s H vs Q E hr h=>?_
 obtain⟨l,rf,t,rfl,hp,co,q⟩:=h;refine⟨_,ak (aC (aB cT hr (pa3 (am aF (pv 0) ad) (am aF (pv 0) ad) (am aF (pv 0) ad)))),?_⟩
 exact⟨_,rfl,l,_,_,_,rfl,rfl,SqL.of hp.1,a30,_,rfl,l,_,_,_,rfl,rfl,SqL.of hp.1,a31,_,rfl,l,_,_,_,rfl,rfl,SqL.of hp.1,a32,_,_,_,_,_,_,rfl,p30 hp,p31 hp,p32 hp,c30 co,c31 co,c32 co,q⟩
theorem AR:aD ["triangle","point"] ["triangle","point"] (au lR):=.mk'
theorem rQ:(["start","end","point"]:List Str).Nodup:=by decide +kernel
theorem ya(F:Fun K "holds" "holds" lR f fd)(cS:Cal P w K mg base 1 "sides_of" ["corners"] kg)(cT:Cal P w K mg base 1 "turn" ["start","end","point"] fR)(Dw:mg "all" = none):FnOk P w K mg base CX0 2 f fd ["triangle","point"] s_:=by
 refine F.ok AR (by rintro _ _ _ _⟨_,_,_,_,_,rfl,_⟩;rfl) fun C6 A outer s H vs Q E hr h=>?_
 obtain⟨l,rf,t,pt,p,rfl,hp,co,hpt,cp,q⟩:=h;refine⟨_,ak (aC (aE (mV rfl) rfl Dw TW (pa1 (fD (N':=["start","end","point"]) (own:=2) (ae:=[1]) rfl (aT.of (sc:=au lR) (N0:=["triangle","point"]) rfl rfl (by decide +kernel)) (b9 (aB cS hr (pa1 (pv 0)))) (fun _ _ _ _ _ _=>(kw (n:=2) rfl (bD (aI (i:=0) rQ rfl (ZQ rfl)) (bD (aI (i:=1) rQ rfl (ZQ rfl)) gY)))) (fun C cl fp aa s₂ H₂=>eZ) (fun _ _ _ _ _ _=>(gP BL (aB cT hr (pa3 (pv 0) (pv 1) (pv 2))) ad)))))),?_⟩
 refine⟨_,rfl,l,rf,t3 t,rfl,hp,(show 1<=3 by decide),(show 3<=400 by decide),fun r ts H2 s2 DC=>?_⟩
 have hp2:=hp.mono s2;have hpt2:PtA H2 pt p:=s2 _ _ hpt;refine⟨r,rfl,⟨_,SqL.of DC.1⟩,?_⟩;refine l5 (fun i=>decide (0<=turn (at' (t3 t) i) (at' (t3 t) (nx 3 i)) p)) (show 3<=1000 by decide) DC.1 (fun i hi H' s' Q' hq=>?_) xc (fun D H' s' hD=>?_)
 ·refine⟨_,_,rfl,SqT.of (s' _ _ (DC.2 i hi)),rfl,_,_,rfl,_,_,rfl,rfl,l8 (by decide) (by decide),dt ?_⟩
  exact⟨_,rfl,_,rfl,_,rfl,_,_,_,_,_,_,rfl,s' _ _ (hp2.2 _ hi),s' _ _ (hp2.2 _ (aH hi)),s' _ _ hpt2,co _ hi,co _ (aH hi),cp,_,_,rfl,rfl,hq _ (av.refl _)⟩
 ·refine⟨D,_,rfl,SqL.of ah,?_⟩;have e:(((Z4 3).map fun i=>decide (0<=turn (at' (t3 t) i) (at' (t3 t) (nx 3 i)) p)).all id)=c7 t.1 t.2.1 t.2.2 p:=by
   unfold c7;show (decide (0<=turn t.1 t.2.1 p)&&(decide (0<=turn t.2.1 t.2.2 p)&&(decide (0<=turn t.2.2 t.1 p)&&true)))=_;rw[XX,Bool.and_assoc]
  rw[e];exact q _ (s2.trans (s'.trans (ao hD _)))
theorem sL:aD ["triangle","corners","others"] ["triangle","corners"] (au jn):=.mk'
theorem je:(["corner","triangle"]:List Str).Nodup:=by decide +kernel
theorem xU(F:Fun K "is_loose" "is_loose" jn f fd)(cD:Cal P w K mg base 2 "doubled_area" ["triangle"] jG)(cH:Cal P w K mg base 2 "holds" ["triangle","point"] s_)(Dx:mg "any" = none):FnOk P w K mg base CX0 3 f fd ["triangle","corners"] rZ:=by
 refine F.ok sL (by rintro _ _ _ _⟨_,_,_,_,_,_,rfl,_⟩;rfl) fun C6 A outer s H vs Q E hr h=>?_
 obtain⟨l,rf,t,r,rg,cs,rfl,hp,co,hr',coC,n4,q⟩:=h;have hu:=hr.un;have hu2:A.units+3+5<cLine:=by have:A.units+3+16*2+200<cLine:=hu;lia
 refine⟨_,aq (c9 (i:=2) (N':=["corner","triangle"]) (own:=1) (ae:=[0]) rfl (aT.of (sc:=au jn) (N0:=["triangle","corners","others"]) rfl rfl (by decide +kernel)) sL.nd rfl (ZQ rfl) (b9 (pv 1)) (fun _ _ _ _ _ _=>(aI (i:=0) je rfl (ZQ rfl))) (fun C cl fp aa s₂ H₂=>gU (sE (uC (K:=K) rfl hu2) (pv 0) (pv 1) rfl)) (fun _ _ _ _ _ _=>(pv 0)))
  (ak (aC (jq (gP ia (aB cD hr (pa1 (pv 0))) ad) (jE (lO (aE (mL rfl) rfl Dx TX (pa1 (fD (N':=["corner","triangle"]) (own:=1) (ae:=[0]) rfl (aT.of (sc:=au jn) (N0:=["triangle","corners","others"]) rfl rfl (by decide +kernel)) (b9 (pv 2)) (fun _ _ _ _ _ _=>(aI (i:=0) je rfl (ZQ rfl))) (fun C cl fp aa s₂ H₂=>eZ) (fun _ _ _ _ _ _=>(aB cH hr (pa2 (pv 1) (pv 0)))))))))))),?_⟩
 refine⟨_,rfl,r,rfl,⟨_,SqL.of hr'.1⟩,?_⟩;refine iw (rf:=rg) (n:=cs.length) (fun i=>!(at' cs i==t.1||at' cs i==t.2.1||at' cs i==t.2.2)) (a_ (by lia)) (SqL.of hr'.1) (fun i hi Qb hq=>?_) (fun D hD=>⟨[_,_,_],rfl,?_⟩)
 ·refine⟨_,rfl,_,rfl,rg i,l,at' cs i,rf,fun j=>at' (t3 t) j,3,rfl,rfl,hr'.2 i hi,SqL.of hp.1,(fun j hj=>hp.2 j hj),_,rfl,?_⟩;have e:(!(Z4 3).any fun j=>decide (at' (t3 t) j=at' cs i))=!(at' cs i==t.1||at' cs i==t.2.1||at' cs i==t.2.2):=by
   show (!(decide (t.1=at' cs i)||(decide (t.2.1=at' cs i)||(decide (t.2.2=at' cs i)||false))))=_;have k:∀x y:Pt,decide (x=y)=(y==x):=fun x y=>by
    rw[ZP,decide_eq_true_eq,beq_iff_eq];exact eq_comm
   rw[k,k,k,VR,Bool.or_assoc]
  rw[e];exact hq
 have s3:=ao hD (.lst (((Z4 cs.length).filter fun i=>!(at' cs i==t.1||at' cs i==t.2.1||at' cs i==t.2.2)).map fun i=>V.ref (rg i)));obtain⟨rg3,h3⟩:=i5 hr' (fun p=>!(p==t.1||p==t.2.1||p==t.2.2)) s3 ah;generalize upd H D (.lst (((Z4 cs.length).filter fun i=>!(at' cs i==t.1||at' cs i==t.2.1||at' cs i==t.2.2)).map fun i=>V.ref (rg i)))=H3 at *
 have co3:aN (cs.filter fun p=>!(p==t.1||p==t.2.1||p==t.2.2)):=fun j hj=>by
  obtain⟨k,hk,e⟩:=Yv (ZG.mp (cO hj)).1
  have:=coC k hk
  rw[show at' cs k=at' (cs.filter fun p=>!(p==t.1||p==t.2.1||p==t.2.2)) j by rw[<-e,bN,Z2,Z3 hk];rfl]at this
  exact this
 have n3:(cs.filter fun p=>!(p==t.1||p==t.2.1||p==t.2.2)).length<=400:=Nat.le_trans (Wv _ _) n4;have ql:gF cs t.1 t.2.1 t.2.2=(decide (0<t2 t)&&!((cs.filter fun p=>!(p==t.1||p==t.2.1||p==t.2.2)).any (c7 t.1 t.2.1 t.2.2))):=rfl;rw[ql]at q;generalize (cs.filter fun p=>!(p==t.1||p==t.2.1||p==t.2.2))=os at *
 have hp3:=hp.mono s3;refine⟨_,rfl,l,rf,t,rfl,hp3,co,_,_,rfl,rfl,_,rfl,?_⟩;refine a9 (fun c=>?_) (fun c=>?_)
 ·rw[c]at q;refine⟨_,rfl,D,rfl,⟨_,SqL.of h3.1⟩,?_⟩;refine l5 (fun i=>c7 t.1 t.2.1 t.2.2 (at' os i)) (by lia) h3.1 (fun i hi H' s' Q' hq=>?_) tj (fun D2 H' s' hD2=>?_)
  ·exact⟨fP (by decide),dt ⟨_,rfl,_,rfl,l,rf,t,_,_,rfl,hp3.mono s',co,s' _ _ (h3.2 i hi),co3 i hi,hq⟩⟩
  ·refine⟨D2,_,rfl,SqL.of ah,_,rfl,?_⟩;have e:((Z4 os.length).map fun i=>c7 t.1 t.2.1 t.2.2 (at' os i)).any id=os.any (c7 t.1 t.2.1 t.2.2):=by
    have h1:=congrArg (fun l=>List.any l (c7 t.1 t.2.1 t.2.2)) (kM os);rw[TK]at h1 ⊢;exact h1.symm
   rw[e];exact q _ (s3.trans (s'.trans (ao hD2 _)))
 ·have c':decide (0<t2 t)=false:=by simpa using c
  rw[c']at q;exact q _ s3
end
end FD
end
section
namespace FD
open PySem L2 FF
noncomputable def trK(cs:List Pt)(k:Nat):Tri:=(at' cs (pvN cs.length (pvN cs.length k)),at' cs (pvN cs.length k),at' cs k)
noncomputable def qk:Sp:=fun vs H Q _=>∃l rf cs k,vs=[.ref l]/\PLs H l rf cs/\aN cs/\3<=cs.length/\cs.length<=400/\fV cs=some k/\∀a rg H',av H H'->H a=none->PLs H' a rg (t3 (trK cs k))->Q (.ref a) H'
theorem jD{n i:Nat}(h:i<n):pvN n i<n:=by unfold pvN;split<;>lia
theorem u8{x:V}{xs:List V}:atI (x::xs) 0=some x:=jZ (j:=0) rfl
noncomputable def rg3(x y z:Addr):Nat->Addr:=fun i=>if i=0 then x else if i=1 then y else z
theorem mk3{H:Hp}{a x y z:Addr}{p q r:Pt}(ha:H a=none)(hx:PtA H x p)(hy:PtA H y q)(hz:PtA H z r):PLs (upd H a (.lst [.ref x,.ref y,.ref z])) a (rg3 x y z) (t3 (p,q,r)):=by
 have s:=ao ha (.lst [.ref x,.ref y,.ref z]);refine⟨ah,fun i hi=>?_⟩;have hi:i<3:=hi;rcases i with _|_|_|i
 ·exact s _ _ hx
 ·exact s _ _ hy
 ·exact s _ _ hz
 ·lia
theorem dG{H H':Hp}(s:av H H'){a:Addr}(h:H' a=none):H a=none:=by
 cases z:H a with
 |none=>rfl
 |some o=>rw[s _ _ z]at h;cases h
theorem uE{K:Z1}{a:Addr}{n:Nat}{rf:Nat->Addr}{ae:List Nat}{tt:TT}{σ:L2.St}{H:Hp}{R:Addr->List V->Hp->Prop}(b:Nat->Bool)(hn:n<=1000)(hl:H a=some (.lst (aj n rf)))
  (ht:∀i,i<n->∀H',av H H'->∀Qb:Bool->Hp->Prop,(∀H'',av H' H''->Qb (b i) H'')->tt ((compσ 1 ae σ).set 0 (some (.ref (rf i)))) H' Qb)
  (hd:∀D H',av H H'->H' D=none->R D (((Z4 n).filter b).map fun i=>V.ref (rf i)) H'):
  ∃(n:Nat) (W:Nat->List V->Hp->Prop),n<=sizeLine/\W 0 [] H/\(∀ys H,W n ys H->(Itl K a).stop n H/\∀D,H D=none->R D ys H)/\
   ∀i ys H,i<n->W i ys H->(Itl K a).go i H/\∀x H',(Itl K a).yld i H x H'->bW 0 x (compσ 1 ae σ) H' fun σ2 H2=>dr 1 ae σ σ2/\tt σ2 H2 fun b H3=>if b=true then dO 0 σ2 H3 fun v H4=>W (i+1) (ys++[v]) H4 else W (i+1) ys H3:=by
 refine⟨n,fun i ys H'=>av H H'/\ys=((Z4 i).filter b).map fun i=>V.ref (rf i),a_ hn,⟨av.refl _,rfl⟩,?_,?_⟩
 ·rintro ys H' ⟨sW,rfl⟩;exact⟨⟨_,SqL.of (sW _ _ hl),by rw[ai];exact Nat.le_refl _⟩,fun D hD=>hd D H' sW hD⟩
 ·rintro i ys H' hi ⟨sW,rfl⟩;refine⟨⟨_,_,SqL.of (sW _ _ hl),aR hi⟩,fun x H2 hy=>?_⟩;obtain⟨rfl,hy⟩:=hy;obtain⟨_,rfl⟩:=bU (hy _ (SqL.of (sW _ _ hl)));refine⟨fP (by decide),ht i hi _ sW _ fun H'' Dh=>?_⟩
  have step:(((Z4 (i+1)).filter b).map fun i=>V.ref (rf i))=(((Z4 i).filter b).map fun i=>V.ref (rf i))++(if b i=true then [.ref (rf i)] else []):=by
   rw[Xg,XZ,ZL,XO,Vj]
   split<;>rfl
  cases hb:b i with
  |true=>
   refine dt ⟨.ref (rf i),by simp[compσ],sW.trans Dh,?_⟩
   show _=(((Z4 (i+1)).filter b).map fun i=>V.ref (rf i));rw[step,if_pos hb]
  |false=>
   refine eH ⟨sW.trans Dh,?_⟩;show _=(((Z4 (i+1)).filter b).map fun i=>V.ref (rf i));rw[step,if_neg (by rw[hb];decide),ZJ]
section
variable{P:Zy}{w:Zm}{K:Z1}{mg:Str->Option Value}{base:ZE}{f:Addr}{fd:ZD}
theorem qN:aD ["corners","triangles"] ["corners"] (au iJ):=.mk'
theorem xh:(["k","corners"]:List Str).Nodup:=by decide +kernel
theorem tF:(["triangle","corners"]:List Str).Nodup:=by decide +kernel
theorem A5{cs:List Pt}(co:aN cs)(n1:3<=cs.length){k:Nat}(hk:k<cs.length):aN (t3 (trK cs k)):=fun i hi=>by
 have hi:i<3:=hi;have h1:=jD hk;have h2:=jD h1;rcases i with _|_|_|i
 ·exact co _ h2
 ·exact co _ h1
 ·exact co _ hk
 ·lia
theorem uX(F:Fun K "loose_triangle" "loose_triangle" iJ f fd)(cL:Cal P w K mg base 3 "is_loose" ["triangle","corners"] rZ)(C5:mg "len" = none)(C4:mg "range" = none):FnOk P w K mg base CX0 4 f fd ["corners"] qk:=by
 refine F.ok qN (by rintro _ _ _ _⟨_,_,_,_,rfl,_⟩;rfl) fun C6 A outer s H vs Q E hr h=>?_
 obtain⟨l,rf,cs,k,rfl,hp,co,n3,n4,hf,q⟩:=h;refine⟨_,aq (c9 (i:=1) (N':=["k","corners"]) (own:=1) (ae:=[0]) rfl (aT.of (sc:=au iJ) (N0:=["corners","triangles"]) rfl rfl (by decide +kernel)) qN.nd rfl (ZQ rfl) (dH rfl C4 (pa1 (aE aM rfl C5 ZF (pa1 (pv 0))))) (fun _ _ _ _ _ _=>(aI (i:=0) xh rfl (ZQ rfl))) (fun C cl fp aa s₂ H₂=>eZ) (fun _ _ _ _ _ _=>(cN (pa3 (am iV (pv 1) (ag ef (pv 0) ad)) (am iV (pv 1) (ag ef (pv 0) ad)) (am iV (pv 1) (pv 0))))))
  (ak (aC (am aF (fD (N':=["triangle","corners"]) (own:=1) (ae:=[0]) rfl (aT.of (sc:=au iJ) (N0:=["corners","triangles"]) rfl rfl (by decide +kernel)) (b9 (pv 1)) (fun _ _ _ _ _ _=>(aI (i:=0) tF rfl (ZQ rfl))) (fun C cl fp aa s₂ H₂=>gU (bG (aB cL hr (pa2 (pv 0) (pv 1))))) (fun _ _ _ _ _ _=>(pv 0))) ad))),?_⟩
 refine⟨_,rfl,l,_,rfl,.inl (SqL.of hp.1),?_⟩;rw[ai];refine⟨_,rfl,by lia,by lia,cs.length,fun i ys H'=>av H H'/\∃ts:Nat->Addr,ys=aj i ts/\∀j,j<i->H (ts j)=none/\∃rg,PLs H' (ts j) rg (t3 (trK cs j)),a_ (by lia),⟨av.refl _,fun _=>l,rfl,fun j hj=>absurd hj (by lia)⟩,fun ys H' hW=>⟨by show _<=_;lia,fun D hD=>⟨[_,_],rfl,?_⟩⟩,fun i ys H' hi hW=>⟨by show _<_;lia,fun x H2 hy=>?_⟩⟩
 rotate_left
 ·obtain⟨rfl,rfl⟩:=hy;obtain⟨sW,ts,rfl,hts⟩:=hW;refine⟨fP (by decide),dt ?_⟩
  have hp2:=hp.mono sW;have i0:(0:Int)+(i:Int)=(i:Int):=by lia
  rw[i0];have h1:=jD hi;have h2:=jD h1;refine⟨_,rfl,_,rfl,_,_,rfl,rfl,l,_,_,_,rfl,rfl,SqL.of hp2.1,nN hi (by lia),_,rfl,_,rfl,_,_,rfl,rfl,l,_,_,_,rfl,rfl,SqL.of hp2.1,gu hi,_,rfl,_,rfl,l,_,_,_,rfl,rfl,SqL.of hp2.1,bS hi,a_ (show 3<=1000 by decide),fun p hpn=>?_⟩
  have s3:=ao hpn (.lst [.ref (rf (pvN cs.length (pvN cs.length i))),.ref (rf (pvN cs.length i)),.ref (rf i)]);refine⟨sW.trans s3,fun j=>if j<i then ts j else p,gE,fun j hj=>?_⟩
  by_cases e:j<i
  ·dsimp only;rw[if_pos e];obtain⟨z1,rg,z2⟩:=hts j e;exact⟨z1,rg,z2.mono s3⟩
  ·have ej:j=i:=by lia
   subst ej;dsimp only;rw[if_neg e];exact⟨dG sW hpn,_,mk3 hpn (hp2.2 _ h2) (hp2.2 _ h1) (hp2.2 _ hi)⟩
 obtain⟨sW,ts,rfl,hts⟩:=hW;have s2:=ao hD (.lst (aj cs.length ts));have hD2:(upd H' D (.lst (aj cs.length ts))) D=some (.lst (aj cs.length ts)):=ah;have hts2:∀j,j<cs.length->H (ts j)=none/\∃rg,PLs (upd H' D (.lst (aj cs.length ts))) (ts j) rg (t3 (trK cs j)):=fun j hj=>⟨(hts j hj).1,(hts j hj).2.elim fun rg z=>⟨rg,z.mono s2⟩⟩;have sH2:=sW.trans s2;generalize upd H' D (.lst (aj cs.length ts))=H2 at *
 have hp2:=hp.mono sH2;refine⟨_,rfl,D,rfl,⟨_,SqL.of hD2⟩,?_⟩;refine uE (eQ cs) (by lia) hD2 (fun i hi H3 s3 Qb hq=>?_) (fun D3 H3 s3 hD3=>?_)
 ·obtain⟨_,rg,z⟩:=hts2 i hi;exact⟨_,rfl,_,rfl,ts i,rg,trK cs i,l,rf,cs,rfl,z.mono s3,A5 co n3 hi,hp2.mono s3,co,n4,fun H4 s4=>⟨_,rfl,hq H4 s4⟩⟩
 ·have hk:∃js,(Z4 cs.length).filter (eQ cs)=k::js:=by
   unfold fV at hf;rw[<-List.head?_filter]at hf;cases z:(Z4 cs.length).filter (eQ cs) with
   |nil=>rw[z]at hf;cases hf
   |cons y ys=>rw[z]at hf;cases hf;exact⟨ys,rfl⟩
  have kn:k<cs.length:=Zt.mp (Yq hf);obtain⟨js,hk⟩:=hk;rw[hk];obtain⟨z0,rg,z⟩:=hts2 k kn;have s4:=ao hD3 (.lst ((k::js).map fun i=>V.ref (ts i)));exact⟨D3,_,_,_,rfl,rfl,SqL.of ah,u8,q _ rg _ (sH2.trans (s3.trans s4)) z0 (z.mono (s3.trans s4))⟩
end
end FD
end
section
namespace FD
open PySem L2 FF
noncomputable def fB(H:Hp)(a:Addr)(t:Tri):Prop:=∃rg,PLs H a rg (t3 t)
theorem fB.mono{H H':Hp}{a:Addr}{t:Tri}(h:fB H a t)(s:av H H'):fB H' a t:=h.elim fun rg z=>⟨rg,z.mono s⟩
theorem fB.upd{H:Hp}{a r:Addr}{t:Tri}{xs ys:List V}(h:fB H a t)(ne:a≠r)(hr:H r=some (.lst xs)):fB (upd H r (.lst ys)) a t:=by
 obtain⟨rg,h1,h2⟩:=h;refine⟨rg,by rw[aG ne];exact h1,fun i hi=>?_⟩
 have q:=h2 i hi;have ne:rg i≠r:=jf q hr (by intro z;cases z)
 show L2.upd H r _ (rg i)=_;rw[aG ne];exact q
theorem qO{H:Hp}{a r:Addr}{rg:Nat->Addr}{cs:List Pt}{xs ys:List V}(h:PLs H a rg cs)(ne:a≠r)(hr:H r=some (.lst xs)):PLs (upd H r (.lst ys)) a rg cs:=by
 obtain⟨h1,h2⟩:=h;refine⟨by rw[aG ne];exact h1,fun i hi=>?_⟩
 have q:=h2 i hi;have ne:rg i≠r:=jf q hr (by intro z;cases z)
 show L2.upd H r _ (rg i)=_;rw[aG ne];exact q
inductive TAs(H:Hp):List Addr->List Tri->Prop
 |nil:TAs H [] []
 |cons {a:Addr} {t:Tri} {as:List Addr} {ts:List Tri} (h:fB H a t) (r:TAs H as ts):TAs H (a::as) (t::ts)
theorem TAs.map{H H':Hp}{as:List Addr}{ts:List Tri}(h:TAs H as ts)(f:∀a∈as,∀t,fB H a t->fB H' a t):TAs H' as ts:=by
 induction h with
 |nil=>exact .nil
 |cons x r ih=>exact .cons (f _ (by simp) _ x) (ih fun a ha=>f a (by simp[ha]))
theorem TAs.mono{H H':Hp}{as:List Addr}{ts:List Tri}(h:TAs H as ts)(s:av H H'):TAs H' as ts:=h.map fun _ _ _ z=>z.mono s
theorem TAs.upd{H:Hp}{as:List Addr}{ts:List Tri}{r:Addr}{xs ys:List V}(h:TAs H as ts)(ne:∀a∈as,a≠r)(hr:H r=some (.lst xs)):TAs (upd H r (.lst ys)) as ts:=h.map fun a ha _ z=>z.upd (ne a ha) hr
theorem TAs.app{H:Hp}{as bs:List Addr}{ts us:List Tri}(h:TAs H as ts)(k:TAs H bs us):TAs H (as++bs) (ts++us):=by
 induction h with
 |nil=>exact k
 |cons x r ih=>exact .cons x ih
theorem TAs.len{H:Hp}{as:List Addr}{ts:List Tri}(h:TAs H as ts):as.length=ts.length:=by
 induction h with
 |nil=>rfl
 |cons x r ih=>simp[ih]
theorem TAs.there{H:Hp}{as:List Addr}{ts:List Tri}(h:TAs H as ts):∀a∈as,∃xs,H a=some (.lst xs):=by
 induction h with
 |nil=>intro a ha;cases ha
 |cons x r ih=>
  intro a ha;rcases Zx.mp ha with rfl|ha
  ·exact x.elim fun rg z=>⟨_,z.1⟩
  ·exact ih a ha
theorem TAs.last{H:Hp}{as:List Addr}{ts:List Tri}(h:TAs H as ts)(n:0<as.length):∃as' a ts' t,as=as'++[a]/\ts=ts'++[t]/\TAs H as' ts'/\fB H a t:=by
 induction h with
 |nil=>cases n
 | @cons a t as ts x r ih=>
  cases as with
  |nil=>cases r;exact⟨[],a,[],t,rfl,rfl,.nil,x⟩
  |cons b bs=>
   obtain⟨as',a',ts',t',e1,e2,h1,h2⟩:=ih (by simp)
   exact⟨a::as',a',t::ts',t',by rw[e1];rfl,by rw[e2];rfl,.cons x h1,h2⟩
noncomputable def rO:Sp:=fun vs H Q _=>∃l rf cs ts,vs=[.ref l]/\PLs H l rf cs/\aN cs/\cs.length<=400/\bF cs ts/\
 ∀r as H',av H H'->H r=none->H' r=some (.lst (as.map V.ref))->TAs H' as ts->(∀a∈as,a≠r)->as.length<=400->Q (.ref r) H'
theorem wE{cs:List Pt}{ts:List Tri}(h:bF cs ts)(n:cs.length<=3):∃t,cs=t3 t/\ts=[t]:=by
 cases h with
 | @done a b c h=>exact⟨(a,b,c),rfl,rfl⟩
 |cut n4 f r=>lia
theorem yJ{cs:List Pt}{ts:List Tri}(h:bF cs ts)(n:3<cs.length):∃k ts',fV cs=some k/\ts=trK cs k::ts'/\bF (cs.filter fun p=>p != at' cs (pvN cs.length k)) ts':=by
 cases h with
 | @done a b c h=>exact absurd n (by simp)
 | @cut _ k ts' n4 f r=>exact⟨k,ts',f,rfl,r⟩
theorem oR{cs:List Pt}(h:aN cs)(pb:Pt->Bool):aN (cs.filter pb):=fun j hj=>by
 obtain⟨k,hk,e⟩:=Yv (ZG.mp (cO hj)).1
 have:=h k hk
 rw[show at' cs k=at' (cs.filter pb) j by rw[<-e,bN,Z2,Z3 hk];rfl]at this
 exact this
theorem vn{cs:List Pt}{k:Nat}(hk:k<cs.length):(cs.filter fun p=>p != at' cs k).length<cs.length:=by
 have h1:=Wv (fun p=>p != at' cs k) cs;rcases Nat.lt_or_eq_of_le h1 with h|h
 ·exact h
 ·have:=(WB.mp (T8 List.filter_sublist h)) (at' cs k) (cO hk)
  simp at this
section
variable{P:Zy}{w:Zm}{K:Z1}{mg:Str->Option Value}{base:ZE}{f:Addr}{fd:ZD}
theorem iR:aD ["corners","rest","triangles","triangle"] ["corners"] (au lV):=.mk'
theorem yz(F:Fun K "corner_triangles" "corner_triangles" lV f fd)(cL:Cal P w K mg base 4 "loose_triangle" ["corners"] qk)(C5:mg "len" = none)(C1:mg "list" = none):FnOk P w K mg base CX0 5 f fd ["corners"] rO:=by
 refine F.ok iR (by rintro _ _ _ _⟨_,_,_,_,rfl,_⟩;rfl) fun C6 A outer s H vs Q E hr h=>?_
 obtain⟨l,rf,cs,ts,rfl,hp,co,n4,hc,q⟩:=h;have hu:=hr.un;have hu2:A.units+3+5<cLine:=by have:A.units+3+16*4+200<cLine:=hu;lia
 refine⟨_,aq (ay (i:=1) iR.nd (gH jW rfl C1 Yi (pa1 (pv 0))))
  (aq (ay (i:=2) iR.nd (cN ie))
  (aq (k9 ZU (aV ia (aE aM rfl C5 ZF (pa1 (pv 1))) ad) (aq (ay (i:=3) iR.nd (aB cL hr (pa1 (pv 1))))
   (aq (eX (ko Yr Xv Xu iB (pv 2) (pa1 (pv 3))))
   (ak (c9 (i:=1) (N':=["corner","triangle"]) (own:=1) (ae:=[3]) rfl (aT.of (sc:=au lV) (N0:=["corners","rest","triangles","triangle"]) rfl rfl (by decide +kernel)) iR.nd rfl (ZQ rfl) (b9 (pv 1)) (fun _ _ _ _ _ _=>(aI (i:=0) je rfl (ZQ rfl))) (fun C cl fp aa s₂ H₂=>gU (aV (AB (K:=K) rfl hu2) (pv 0) (am iV (pv 1) ad))) (fun _ _ _ _ _ _=>(pv 0)))))))
  (ak (aC (ag gG (pv 2) (cN (pa1 (pv 1)))))))),?_⟩
 refine⟨_,rfl,l,rf,cs,rfl,hp,fun r1 H1 s1 hp1=>⟨[_,_,_,_],rfl,?_⟩⟩;refine⟨a_ (show 0<=1000 by decide),fun tr htr=>⟨[_,_,_,_],rfl,?_⟩⟩
 have s2:=ao htr (.lst []);have ht2:(upd H1 tr (.lst [])) tr=some (.lst (([]:List Addr).map V.ref)):=ah;have ntr:H tr=none:=dG s1 htr;have ne1:r1≠tr:=a8 hp1.1 htr;have sH2:=s1.trans s2;have hp2:=hp1.mono s2;generalize upd H1 tr (.lst [])=H2 at *
 refine⟨fun m σ H'=>∃r1 rf1 cs1 ts1 dn as x3,m=cs1.length/\σ=[some (.ref l),some (.ref r1),some (.ref tr),x3]/\av H H'/\H' tr=some (.lst (as.map V.ref))/\TAs H' as dn/\(∀a∈as,a≠tr)/\PLs H' r1 rf1 cs1/\r1≠tr/\aN cs1/\as.length+cs1.length<=400/\bF cs1 ts1/\dn++ts1=ts,
  ⟨_,r1,rf,cs,ts,[],[],none,rfl,rfl,sH2,ht2,.nil,(fun a ha=>by cases ha),hp2,ne1,co,by simpa using n4,hc,rfl⟩,?_⟩
 clear hp1 hp2 ne1 ht2 htr sH2 s2 s1;rintro m σ H3 ⟨r1,rf1,cs1,ts1,dn,as,x3,rfl,rfl,s3,htr,hT,neA,hp1,ne1,co1,n5,hc1,eT⟩;refine⟨_,rfl,r1,_,rfl,.inl (SqL.of hp1.1),?_⟩;rw[ai];refine⟨_,_,rfl,rfl,_,rfl,?_⟩;refine a9 (fun c=>?_) (fun c=>⟨[_,_,_,_],rfl,?_⟩)
 ·have c3:3<cs1.length:=by have:=Zi c;lia
  obtain⟨k,ts',hf,e1,hc'⟩:=yJ hc1 c3;have kn:k<cs1.length:=Zt.mp (Yq (show (Z4 cs1.length).find? _=some k from hf))
  refine⟨_,fun σ' H' z=>z,?_⟩;refine⟨_,rfl,r1,rf1,cs1,k,rfl,hp1,co1,by lia,by lia,hf,fun a rg H4 s4 na hA=>⟨[_,_,_,_],rfl,?_⟩⟩
  have htr4:=s4 _ _ htr;have neT:a≠tr:=fun e=>by rw[e,htr]at na;cases na
  have hp4:=hp1.mono s4;have hT4:=hT.mono s4;refine⟨_,rfl,.inl ⟨rfl,_,SqL.of htr4⟩,_,rfl,tr,_,_,rfl,rfl,htr4,by rw[Z7];exact Nat.lt_of_lt_of_le (show as.length<1000 by lia) (a_ (Nat.le_refl 1000)),⟨[_,_,_,_],rfl,?_⟩⟩
  have e5:(as.map V.ref++[V.ref a])=(as++[a]).map V.ref:=by rw[ZL];rfl
  have ht5:(L2.upd H4 tr (.lst (as.map V.ref++[V.ref a]))) tr=some (.lst ((as++[a]).map V.ref)):=by rw[ah,e5]
  have hT5:TAs (L2.upd H4 tr (.lst (as.map V.ref++[V.ref a]))) (as++[a]) (dn++[trK cs1 k]):=(hT4.upd neA htr4).app (.cons (fB.upd ⟨rg,hA⟩ neT htr4) .nil);have hA5:PLs (L2.upd H4 tr (.lst (as.map V.ref++[V.ref a]))) a rg (t3 (trK cs1 k)):=qO hA neT htr4;have hp5:PLs (L2.upd H4 tr (.lst (as.map V.ref++[V.ref a]))) r1 rf1 cs1:=qO hp4 ne1 htr4;have s5:av H (L2.upd H4 tr (.lst (as.map V.ref++[V.ref a]))):=FD.av.updN (s3.trans s4) ntr;generalize L2.upd H4 tr (.lst (as.map V.ref++[V.ref a]))=H5 at *
  refine⟨_,rfl,r1,rfl,⟨_,SqL.of hp5.1⟩,?_⟩;refine iw (rf:=rf1) (n:=cs1.length) (fun i=>at' cs1 i != at' cs1 (pvN cs1.length k)) (a_ (by lia)) (SqL.of hp5.1) (fun i hi Qb hq=>?_) (fun D hD=>?_)
  ·refine⟨_,rfl,_,rfl,a,_,_,_,rfl,rfl,SqL.of hA5.1,a31,rf1 i,rg 1,at' cs1 i,at' cs1 (pvN cs1.length k),rfl,rfl,hp5.2 i hi,p31 hA5,_,rfl,?_⟩;have e:(!decide (at' cs1 i=at' cs1 (pvN cs1.length k)))=(at' cs1 i != at' cs1 (pvN cs1.length k)):=by
    rw[ZP];simp
   rw[e];exact hq
  ·have s6:=ao hD (.lst (((Z4 cs1.length).filter fun i=>at' cs1 i != at' cs1 (pvN cs1.length k)).map fun i=>V.ref (rf1 i)));obtain⟨rg6,h6⟩:=i5 hp5 (fun p=>p != at' cs1 (pvN cs1.length k)) s6 ah;have lt:=vn (jD kn);exact⟨_,lt,D,rg6,_,ts',dn++[trK cs1 k],as++[a],_,rfl,rfl,s5.trans s6,s6 _ _ ht5,hT5.mono s6,(fun b hb=>by
    rcases ZH.mp hb with z|z
    ·exact neA b z
    ·rw[Zg.mp z];exact neT),h6,(fun e=>by rw[e,ht5]at hD;cases hD),oR co1 _,by rw[Z5];simp only[Yn];lia,hc',by rw[<-eT,e1,Zf];rfl⟩
 ·have c3:cs1.length<=3:=by
   have:¬((3:Int)<(cs1.length:Int)):=fun z=>c (Zo z)
   lia
  obtain⟨t,rfl,rfl⟩:=wE hc1 c3;refine⟨_,rfl,_,rfl,a_ (show 1<=1000 by decide),fun z hz=>?_⟩
  have s4:=ao hz (.lst [.ref r1]);refine⟨tr,z,_,_,rfl,rfl,s4 _ _ htr,ah,by rw[Z7];exact a_ (show as.length+1<=1000 by have:(t3 t).length=3:=rfl;lia),fun p hpn=>?_⟩
  have s5:=ao hpn (.lst (as.map V.ref++[.ref r1]));have s45:=s4.trans s5;have hT5:TAs _ (as++[r1]) (dn++[t]):=(hT.mono s45).app (.cons ⟨rf1,hp1.mono s45⟩ .nil);rw[eT]at hT5;refine q p (as++[r1]) _ (s3.trans s45) (dG (s3.trans s4) hpn) (by rw[ah,ZL];rfl) hT5 (fun b hb e=>?_) (by have:(t3 t).length=3:=rfl;rw[Z5];simp only[Yn];lia)
  have hb':∃xs,(L2.upd H3 z (.lst [.ref r1])) b=some (.lst xs):=by
   rcases ZH.mp hb with y|y
   ·obtain⟨xs,e⟩:=hT.there b y;exact⟨xs,s4 _ _ e⟩
   ·rw[Zg.mp y];exact⟨_,s4 _ _ hp1.1⟩
  obtain⟨xs,h⟩:=hb';rw[e,hpn]at h;cases h
end
end FD
end
section
namespace FD
open PySem L2 FF
noncomputable abbrev qR:Stmt:=top 50
noncomputable def rS(P:Zy)(w:Zm):Sp:=fun vs H Q _=>∃r,∃(as:List Addr),∃us:List Tri,vs=[.ref r]/\H r=some (.lst (as.map V.ref))/\TAs H as us/\(∀t∈us,t2 t=1)/\(∀t∈us,aN (t3 t))/\mX us/\us.length<=60/\
 ∀d L ep H',av H H'->H' d=some (DL P w d L ep)->aU H' L->bY L=dE us->Q (.ref d) H'
theorem TAs.get{H:Hp}{as:List Addr}{us:List Tri}(h:TAs H as us):∀{i:Nat} {a:Addr},as[i]?=some a->∃t,us[i]?=some t/\fB H a t:=by
 induction h with
 |nil=>intro i a e;cases e
 |cons h1 h2 ih=>
  intro i a e;cases i with
  |zero=>cases e;exact⟨_,rfl,h1⟩
  |succ i=>exact ih e
theorem B5{t:Tri}{k:Nat}(hk:k<3):(at' (t3 t) (pv_ 3 k),at' (t3 t) k)=(stT t).getD k ((0,0),(0,0)):=by
 match k,hk with
 |0,_=>rfl
 |1,_=>rfl
 |2,_=>rfl
theorem yC{t:Tri}{k:Nat}(hk:k<3):(stT t).take (k+1)=(stT t).take k++[(stT t).getD k ((0,0),(0,0))]:=by
 match k,hk with
 |0,_=>rfl
 |1,_=>rfl
 |2,_=>rfl
theorem zF{L:List (Stp×Addr)}{e:Stp}{b:Addr}(h:e∉bY L):bY (putL L e b)=bY L++[e]:=by
 unfold putL;rw[if_neg h];show (L++[(e,b)]).map (·.1)=_;rw[ZL];rfl
section
variable{P:Zy}{w:Zm}{K:Z1}{mg:Str->Option Value}{base:ZE}{f:Addr}{fd:ZD}
theorem f8:aD ["triangles","gone","triangle","row","k","step"] ["triangles"] (au qR):=.mk'
theorem yX(F:Fun K "_law_gone" "_law_gone" qR f fd)(cX:Cal P w K mg base 1 "_law_cross" ["one","other","third"] fR)(C1:mg "list" = none)(C4:mg "range" = none)(C0:mg "reversed" = none):FnOk P w K mg base CX0 2 f fd ["triangles"] (rS P w):=by
 refine F.ok f8 (by rintro _ _ _ _⟨_,_,_,rfl,_⟩;rfl) fun C6 A outer s H vs Q E hr h=>?_
 obtain⟨r,as,us,rfl,hR,hT,one,co,no,n60,q⟩:=h;have hu:=hr.un;have hu2:A.units+3+2<cLine:=by have:A.units+3+16*1+200<cLine:=hu;lia
 refine⟨_,aq (ay (i:=1) f8.nd (qm P w rfl rfl))
  (aq (dF ZU rfl (b9 (pv 0)) (aI (i:=2) f8.nd rfl (ZQ rfl)) (aq (ay (i:=3) f8.nd (gH jW rfl C1 Yi (pa1 (pv 2))))
   (aq (bc (aV wK (aB cX hr (pa3 (am aF (pv 3) ad) (am aF (pv 3) ad) (am aF (pv 3) ad))) ad) (ak (ay (i:=3) f8.nd (fN rfl rfl C1 rfl C0 (pa1 (pv 3))))) aQ)
   (ak (dF ZU rfl (dH rfl C4 (pa1 ad)) (aI (i:=4) f8.nd rfl (ZQ rfl)) (aq (ay (i:=5) f8.nd (mR (pa2 (am aF (pv 3) (ag ef (pv 4) ad)) (am aF (pv 3) (pv 4)))))
    (aq (bc (vQ (nc P w rfl rfl hu2 (pv 5) (pv 1)) rfl) (ak (aC uW)) aQ)
    (ak (ph P w rfl rfl hu2 (pv 1) (pv 5) cw rfl)))))))))
  (ak (aC (pv 1)))),?_⟩
 refine fun d hd=>⟨[_,_,_,_,_,_],rfl,?_⟩;have s1:=ao hd (DL P w d [] 0);have h1:(upd H d (DL P w d [] 0)) d=some (DL P w d [] 0):=ah;generalize upd H d (DL P w d [] 0)=H1 at *
 have nd:=rV one no;have lA:=hT.len;refine⟨_,rfl,r,rfl,⟨_,SqL.of (s1 _ _ hR)⟩,?_⟩;refine i3 (xs:=as.map V.ref) (fun i σ H'=>∃(L:List (Stp×Addr)) (ep:Nat) (x2 x3 x4 x5:Option V),σ=[some (.ref r),some (.ref d),x2,x3,x4,x5]/\av H H'/\H' d=some (DL P w d L ep)/\aU H' L/\bY L=dE (us.take i))
  ⟨[],0,_,_,_,_,rfl,s1,h1,nX,rfl⟩ (fun i σ H' _ hI=>by obtain⟨L,ep,_,_,_,_,_,s2,_⟩:=hI;exact SqL.of (s2 _ _ hR)) ?_ ?_
 ·clear h1 s1;rintro i x σ H2 hx ⟨L,ep,x2,x3,x4,x5,rfl,s2,h2,ks,kl⟩;rw[Zj]at hx;obtain⟨a,ha,rfl⟩:=W5.mp hx;obtain⟨t,ht,hA⟩:=(hT.mono s2).get ha;obtain⟨rg,hA⟩:=hA;have tm:t∈us:=Y8 ht;have t1:=one t tm;have tc:=co t tm;have il:i<us.length:=(Zh.mp ht).1;have eu:us=us.take i++t::us.drop (i+1):=by
   have:=(Zh.mp ht).2
   rw[<-this,<-X9 il,Zk]
  have et:us.take (i+1)=us.take i++[t]:=by rw[List.take_succ,ht];rfl
  refine⟨_,rfl,a,rg,t3 t,rfl,hA,fun row H3 s3 p3=>⟨[_,_,_,_,_,_],rfl,?_⟩⟩;have h3:=s3 _ _ h2;have k3:=aU.same ks s3;have s3:=s2.trans s3;clear h2 ks s2 hA;have l0:0<(t3 t).length:=(by decide:0<3)
  have l1:1<(t3 t).length:=(by decide:1<3)
  have l2:2<(t3 t).length:=(by decide:2<3)
  refine⟨_,rfl,row,_,_,_,rfl,rfl,SqL.of p3.1,bS (k:=0) l0,?_⟩;refine⟨_,rfl,row,_,_,_,rfl,rfl,SqL.of p3.1,bS (k:=1) l1,?_⟩;refine⟨_,rfl,row,_,_,_,rfl,rfl,SqL.of p3.1,bS (k:=2) l2,?_⟩;refine⟨_,_,_,_,_,_,rfl,p3.2 0 l0,p3.2 1 l1,p3.2 2 l2,tc 0 l0,tc 1 l1,tc 2 l2,_,_,rfl,rfl,_,rfl,?_⟩;have eT:turn (at' (t3 t) 0) (at' (t3 t) 1) (at' (t3 t) 2)=t2 t:=rfl;rw[eT,t1];refine eH ⟨[_,_,_,_,_,_],rfl,?_⟩;refine⟨_,rfl,by decide,by decide,?_⟩
  refine fJ (n:=3) (fun k σ H'=>∃(L:List (Stp×Addr)) (ep:Nat) (x4 x5:Option V),σ=[some (.ref r),some (.ref d),some (.ref a),some (.ref row),x4,x5]/\av H H'/\PLs H' row rg (t3 t)/\H' d=some (DL P w d L ep)/\aU H' L/\bY L=dE (us.take i)++(stT t).take k)
   ⟨L,ep,_,_,rfl,s3,p3,h3,k3,by rw[kl];simp⟩ ?_ ?_
  ·clear h3 k3 s3 p3 kl;rintro k σ H4 hk ⟨L,ep,x4,x5,rfl,s4,p4,h4,k4,kl⟩;have ek:(0:Int)+(k:Int)=(k:Int):=by lia
   rw[ek];refine⟨_,rfl,_,rfl,_,_,rfl,rfl,row,_,_,_,rfl,rfl,SqL.of p4.1,gu (n:=3) hk,_,rfl,_,rfl,row,_,_,_,rfl,rfl,SqL.of p4.1,bS (n:=3) hk,_,_,rfl,fun ky H5 s5 h5=>⟨[_,_,_,_,_,_],rfl,?_⟩⟩;have p5:=p4.mono s5;have kk:eI H5 ky ((stT t).getD k ((0,0),(0,0))):=by
    rw[<-B5 hk];exact mz h5 (p5.2 _ (gv (n:=3) hk)) (p5.2 k hk)
   have h5':=s5 _ _ h4;have k5:=aU.same k4 s5;have new:(stT t).getD k ((0,0),(0,0))∉bY L:=by
    rw[kl];exact yi (by rw[<-eu];exact nd) hk
   refine⟨_,rfl,_,rfl,d,ky,_,L,ep,rfl,rfl,h5',k5,kk,_,rfl,?_⟩;rw[ZO new];refine eH ⟨[_,_,_,_,_,_],rfl,?_⟩;have ll:L.length<=sizeLine:=by
    have:=congrArg Xx kl
    rw[Z7,Z5,kP,Za,Za]at this;exact a_ (by lia)
   refine⟨_,rfl,_,rfl,d,ky,_,L,ep,rfl,rfl,rfl,h5',k5,kk,ll,fun ep'=>⟨_,ep',_,_,rfl,FD.av.updN (s4.trans s5) hd,?_,ah,(k5.put kk).mono (mJ (pf h5')),?_⟩⟩
   ·have nr:row≠d:=fun e=>by
     have:=p5.1
     rw[e,h5']at this;cases this
    refine⟨by rw[aG nr];exact p5.1,fun j hj=>?_⟩
    exact mJ (pf h5') _ _ (p5.2 j hj)
   ·rw[zF new,kl,yC hk,Zf]
  ·rintro σ H4 ⟨L,ep,x4,x5,rfl,s4,p4,h4,k4,kl⟩;refine⟨L,ep,_,_,_,_,rfl,s4,h4,k4,?_⟩;rw[kl,et];unfold dE;rw[VO];show _++stT t=_++(stT t++[]);rw[ZJ]
 ·rintro σ H2 ⟨L,ep,x2,x3,x4,x5,rfl,s2,h2,ks,kl⟩;refine⟨[_,_,_,_,_,_],rfl,_,rfl,q d L ep H2 s2 h2 ks ?_⟩;rw[kl,Z7,lA,List.take_length]
end
end FD
end
section
namespace FD
open PySem L2 FF
noncomputable abbrev my:Stmt:=top 51
noncomputable def qh(P:Zy)(w:Zm):Sp:=fun vs H Q _=>∃r l,∃(as:List Addr),∃us:List Tri,∃rf cs,vs=[.ref r,.ref l]/\H r=some (.lst (as.map V.ref))/\TAs H as us/\(∀t∈us,t2 t=1)/\(∀t∈us,aN (t3 t))/\mX us/\us.length<=60/\PLs H l rf cs/\aN cs/\aZ cs/\Fills cs us/\∀H',av H H'->Q (.bl true) H'
section
variable{P:Zy}{w:Zm}{K:Z1}{mg:Str->Option Value}{base:ZE}{f:Addr}{fd:ZD}
theorem ii:aD ["triangles","corners","steps","gone","step"] ["triangles","corners"] (au my):=.mk'
theorem vL(F:Fun K "_law_fills" "_law_fills" my f fd)(cG:Cal P w K mg base 2 "_law_gone" ["triangles"] (rS P w))(cS:Cal P w K mg base 2 "_law_steps" ["corners"] (pi P w)):FnOk P w K mg base CX0 3 f fd ["triangles","corners"] (qh P w):=by
 refine F.ok ii (by rintro _ _ _ _⟨_,_,_,_,_,_,rfl,_⟩;rfl) fun C6 A outer s H vs Q E hr h=>?_
 obtain⟨r,l,as,us,rf,cs,rfl,hR,hT,one,co,no,n60,hp,coC,fe,fi,q⟩:=h;have hu:=hr.un;have hu2:A.units+3+2<cLine:=by have:A.units+3+16*2+200<cLine:=hu;lia
 refine⟨_,aq (ay (i:=2) ii.nd (aB cS hr (pa1 (pv 1))))
  (aq (ay (i:=3) ii.nd (aB cG hr (pa1 (pv 0))))
  (aq (bc (aV Bx (pv 3) uW) (ak (aC cw)) aQ)
  (aq (dF ZU rfl (vy P w rfl rfl (pv 3)) (aI (i:=4) ii.nd rfl (ZQ rfl)) (ak (bc (aV dM (vx (nc P w rfl rfl hu2 (mR (pa2 (am aw (pv 4) ad) (am aw (pv 4) ad))) (pv 3)) rfl) (vx (nc P w rfl rfl hu2 (pv 4) (pv 2)) rfl)) (ak (aC cw)) aQ)))
  (aq (dF ZU rfl (vy P w rfl rfl (pv 2)) (aI (i:=4) ii.nd rfl (ZQ rfl)) (ak (bc (vQ (tZ P w rfl rfl hu2 (pv 4) (pv 3)) rfl) (ak (aC cw)) aQ)))
  (ak (aC cw)))))),?_⟩
 refine⟨_,rfl,l,rf,cs,dE us,rfl,hp,coC,fe,by rw[kP];lia,fun u v h=>gh.mpr (fi.c u v h),fun ds Ls eps H1 s1 h1 k1 m1=>⟨[_,_,_,_,_],rfl,?_⟩⟩
 refine⟨_,rfl,r,as,us,rfl,s1 _ _ hR,hT.mono s1,one,co,no,n60,fun dg Lg epg H2 s2 h2 k2 m2=>⟨[_,_,_,_,_],rfl,?_⟩⟩;have h1:=s2 _ _ h1;have k1:=aU.same k1 s2;have s2:=s1.trans s2;clear s1;refine⟨_,rfl,rfl,_,rfl,?_⟩;refine a9 (fun c=>absurd c (by simp)) (fun _=>⟨[_,_,_,_,_],rfl,?_⟩)
 refine⟨_,rfl,dg,Lg,epg,rfl,h2,k2,?_⟩;refine wX (fun i σ H'=>∃x4:Option V,σ=[some (.ref r),some (.ref l),some (.ref ds),some (.ref dg),x4]/\av H2 H') ⟨_,rfl,av.refl _⟩ (fun i σ H' _ hI=>by obtain⟨_,_,s3⟩:=hI;exact⟨s3 _ _ h2,aU.same k2 s3⟩) ?_ ?_
 ·rintro i x σ H3 hx ⟨x4,rfl,s3⟩;obtain⟨p,q,g1,g2,g3⟩:=aU.same k2 s3 x (Y8 hx);refine⟨_,rfl,_,_,_,_,rfl,rfl,SqT.of g1,at1,?_⟩;refine⟨_,rfl,_,_,_,_,rfl,rfl,SqT.of g1,at0,_,_,rfl,fun ky H4 s4 h4=>?_⟩;have s34:=s3.trans s4;have kr:eI H4 ky (x.1.2,x.1.1):=mz h4 (s4 _ _ g3) (s4 _ _ g2);have kx:eI H4 x.2 x.1:=⟨p,q,s4 _ _ g1,s4 _ _ g2,s4 _ _ g3⟩;refine⟨_,rfl,dg,ky,_,Lg,epg,rfl,rfl,s34 _ _ h2,aU.same k2 s34,kr,?_⟩;refine⟨_,rfl,_,rfl,ds,x.2,_,Ls,eps,rfl,rfl,s34 _ _ h1,aU.same k1 s34,kx,?_⟩;have xin:x.1∈bY Lg:=Yu.mpr ⟨x,Y8 hx,rfl⟩;have ne:decide ((x.1.2,x.1.1)∈bY Lg)≠decide (x.1∈bY Ls):=by
   rw[m2]at xin ⊢;have hin:InS us x.1.1 x.1.2:=gh.mp xin;by_cases c:(x.1.2,x.1.1)∈dE us
   ·have:=fi.a _ _ hin (gh.mp c)
    rw[Zo c,ZO (fun z=>this ((m1 x.1).mp z))]
    decide
   ·have:=fi.b _ _ hin (fun z=>c (gh.mpr z))
    rw[ZO c,Zo ((m1 x.1).mpr this)]
    decide
  refine⟨rfl,_,rfl,?_⟩;refine a9 (fun c=>absurd (Zi c) fun z=>ne (V.bl.inj z)) (fun _=>⟨_,rfl,s34⟩)
 ·rintro σ H3 ⟨x4,rfl,s3⟩;refine⟨[_,_,_,_,_],rfl,?_⟩;refine⟨_,rfl,ds,Ls,eps,rfl,s3 _ _ h1,aU.same k1 s3,?_⟩;refine wX (fun i σ H'=>∃x4:Option V,σ=[some (.ref r),some (.ref l),some (.ref ds),some (.ref dg),x4]/\H'=H3) ⟨_,rfl,rfl⟩ (fun i σ H' _ hI=>by obtain⟨_,_,rfl⟩:=hI;exact⟨s3 _ _ h1,aU.same k1 s3⟩) ?_ ?_
  ·rintro i x σ H4 hx ⟨x4,rfl,rfl⟩;have kx:=aU.same k1 s3 x (Y8 hx);have xin:x.1∈bY Ls:=Yu.mpr ⟨x,Y8 hx,rfl⟩;have yin:x.1∈bY Lg:=by
    rw[m2];exact gh.mpr (fi.c _ _ ((m1 x.1).mp xin))
   refine⟨_,rfl,_,rfl,dg,x.2,_,Lg,epg,rfl,rfl,s3 _ _ h2,aU.same k2 s3,kx,_,rfl,?_⟩;rw[Zo yin];exact eH ⟨_,rfl,rfl⟩
  ·rintro σ H4 ⟨x4,rfl,rfl⟩;exact⟨[_,_,_,_,_],rfl,q _ (s2.trans s3)⟩
end
end FD
end
section
namespace FD
open PySem L2 FF
noncomputable def eC(t:Tri)(i o:Int):Pt:=(gI t.1 t.2.1 t.2.2 i o,gJ t.1 t.2.1 t.2.2 i o)
noncomputable def sN:Sp:=fun vs H Q _=>∃l rf t i o,vs=[.ref l,.int i,.int o]/\PLs H l rf (t3 t)/\aN (t3 t)/\Sm 1000 i/\Sm 1000 o/\∀p H',av H H'->PtA H' p (eC t i o)->Q (.ref p) H'
noncomputable def zi:Sp:=fun vs H Q _=>∃l rf t,vs=[.ref l]/\PLs H l rf (t3 t)/\aN (t3 t)/\2<=t2 t/\t2 t<=400/\∀p pt H',av H H'->Wp t p->PtA H' pt p->Q (.ref pt) H'
noncomputable def sO:Sp:=fun vs H Q _=>∃l rf t pt p,vs=[.ref l,.ref pt]/\PLs H l rf (t3 t)/\aN (t3 t)/\PtA H pt p/\Co p/\
 ∀r as H',av H H'->H r=none->H' r=some (.lst (as.map V.ref))->TAs H' as (dk t p)->(∀a∈as,H a=none)->Q (.ref r) H'
noncomputable def bX(D:Int):List Pt:=((Z4 (D-1).toNat).map fun (i:Nat)=>((1+(i:Int),0):Pt))++((Z4 D.toNat).map fun (i:Nat)=>((0+(i:Int),1):Pt))
noncomputable def PtW(H:Hp)(g:Nat->Pt)(i:Nat)(ys:List V)(H':Hp):Prop:=av H H'/\∃ts,ys=aj i ts/\∀j,j<i->PtA H' (ts j) (g j)
theorem PtW.nil{H:Hp}{g:Nat->Pt}(a:Addr):PtW H g 0 [] H:=⟨av.refl _,fun _=>a,rfl,fun j hj=>absurd hj (by lia)⟩
theorem PtW.snoc{H H' H4:Hp}{g:Nat->Pt}{i:Nat}{ys:List V}(h:PtW H g i ys H')(s4:av H' H4){t:Addr}(ht:PtA H4 t (g i)):PtW H g (i+1) (ys++[.ref t]) H4:=by
 obtain⟨sW,ts,rfl,hts⟩:=h;refine⟨sW.trans s4,fun j=>if j<i then ts j else t,gE,fun j hj=>?_⟩
 by_cases e:j<i
 ·dsimp only;rw[if_pos e];exact s4 _ _ (hts j e)
 ·have ej:j=i:=by lia
  subst ej;dsimp only;rw[if_neg e];exact ht
theorem PtW.fin{H H':Hp}{g:Nat->Pt}{n:Nat}{ys:List V}(h:PtW H g n ys H'){D:Addr}(hD:H' D=none):av H (upd H' D (.lst ys))/\∃ts,PLs (upd H' D (.lst ys)) D ts ((Z4 n).map g):=by
 obtain⟨sW,ts,rfl,hts⟩:=h;have s:=ao hD (.lst (aj n ts));refine⟨sW.trans s,ts,by rw[ah,Z7,Y2],fun j hj=>?_⟩
 rw[Z7,Y2]at hj;have e:at' ((Z4 n).map g) j=g j:=by
  rw[bN,Z2,Zj,YY hj];rfl
 rw[e];exact s _ _ (hts j hj)
theorem AW{H:Hp}{a b p:Addr}{ra rb:Nat->Addr}{xs ys:List Pt}(ha:PLs H a ra xs)(hb:PLs H b rb ys)(hp:H p=none):PLs (upd H p (.lst (aj xs.length ra++aj ys.length rb))) p (fun i=>if i<xs.length then ra i else rb (i-xs.length)) (xs++ys):=by
 have s:=ao hp (.lst (aj xs.length ra++aj ys.length rb));refine⟨?_,fun i hi=>?_⟩
 ·rw[ah];congr 2;refine Wq (by simp[aj]) fun i h1 h2=>?_
  rw[List.getElem_append];by_cases c:i<xs.length
  ·rw[dif_pos (by rw[ai];exact c)]
   simp[aj,c]
  ·rw[dif_neg (by rw[ai];exact c)]
   simp[aj,c]
 ·rw[Z5]at hi;dsimp only;by_cases c:i<xs.length
  ·rw[if_pos c];have e:at' (xs++ys) i=at' xs i:=by rw[bN,bN,Z2,Z2,ZW c]
   rw[e];exact s _ _ (ha.2 i c)
  ·rw[if_neg c];have e:at' (xs++ys) i=at' ys (i-xs.length):=by rw[bN,bN,Z2,Z2,Yt (by omega)]
   rw[e];exact s _ _ (hb.2 _ (by omega))
theorem co3{p q r:Pt}(h1:Co p)(h2:Co q)(h3:Co r):aN (t3 (p,q,r)):=fun i hi=>by
 have hi:i<3:=hi;rcases i with _|_|_|i
 ·exact h1
 ·exact h2
 ·exact h3
 ·omega
theorem tD{H:Hp}{f:Nat->Addr}{g:Nat->Tri}:∀{js:List Nat},(∀j∈js,fB H (f j) (g j))->TAs H (js.map f) (js.map g)
 | [],_=>.nil
 |j::js,h=>.cons (h j (by simp)) (tD fun i hi=>h i (by simp[hi]))
section
variable{P:Zy}{w:Zm}{K:Z1}{mg:Str->Option Value}{base:ZE}{f:Addr}{fd:ZD}
theorem jY:aD ["triangle","along","off","corner","x","y"] ["triangle","along","off"] (au o9):=.mk'
theorem xq{n:Nat}(F:Fun K "step_into" "step_into" o9 f fd):FnOk P w K mg base CX0 (n+1) f fd ["triangle","along","off"] sN:=by
 refine F.ok jY (by rintro _ _ _ _⟨_,_,_,_,_,rfl,_⟩;rfl) fun C6 A outer s H vs Q E hr h=>?_
 obtain⟨l,rf,t,i,o,rfl,hp,co,si,so,q⟩:=h;refine⟨_,aq (ay (i:=3) jY.nd (am aF (pv 0) ad))
  (aq (ay (i:=4) jY.nd (ag dX (ag iU (pv 1) (ag ef (am aw (am aF (pv 0) ad) ad) (am aw (pv 3) ad))) (ag iU (pv 2) (ag ef (am aw (am aF (pv 0) ad) ad) (am aw (pv 3) ad)))))
  (aq (ay (i:=5) jY.nd (ag dX (ag iU (pv 1) (ag ef (am aw (am aF (pv 0) ad) ad) (am aw (pv 3) ad))) (ag iU (pv 2) (ag ef (am aw (am aF (pv 0) ad) ad) (am aw (pv 3) ad)))))
  (ak (aC (fO (pa2 (pv 4) (pv 5))))))),?_⟩
 have c0:=c30 co;have c1:=c31 co;have c2:=c32 co;have Bi:Big i:=bv (by have:=si.1;omega) (by have:=si.2;omega)
 have Bo:Big o:=bv (by have:=so.1;omega) (by have:=so.2;omega)
 have h0:=p30 hp;have h1:=p31 hp;have h2:=p32 hp;unfold Co at c0 c1 c2;refine⟨_,rfl,l,_,_,_,rfl,rfl,SqL.of hp.1,a30,[_,_,_,_,_,_],rfl,?_⟩;refine⟨_,rfl,_,rfl,l,_,_,_,rfl,rfl,SqL.of hp.1,a31,_,_,_,_,rfl,rfl,SqT.of h1,at0,_,rfl,_,_,_,_,rfl,rfl,SqT.of h0,at0,_,_,rfl,rfl,_,_,rfl,rfl,⟨Bi,bv (by omega) (by omega)⟩,_,rfl,_,rfl,l,_,_,_,rfl,rfl,SqL.of hp.1,a32,_,_,_,_,rfl,rfl,SqT.of h2,at0,_,rfl,_,_,_,_,rfl,rfl,SqT.of h0,at0,_,_,rfl,rfl,_,_,rfl,rfl,⟨Bo,bv (by omega) (by omega)⟩,_,_,rfl,rfl,[_,_,_,_,_,_],rfl,?_⟩
 refine⟨_,rfl,_,rfl,l,_,_,_,rfl,rfl,SqL.of hp.1,a31,_,_,_,_,rfl,rfl,SqT.of h1,at1,_,rfl,_,_,_,_,rfl,rfl,SqT.of h0,at1,_,_,rfl,rfl,_,_,rfl,rfl,⟨Bi,bv (by omega) (by omega)⟩,_,rfl,_,rfl,l,_,_,_,rfl,rfl,SqL.of hp.1,a32,_,_,_,_,rfl,rfl,SqT.of h2,at1,_,rfl,_,_,_,_,rfl,rfl,SqT.of h0,at1,_,_,rfl,rfl,_,_,rfl,rfl,⟨Bo,bv (by omega) (by omega)⟩,_,_,rfl,rfl,[_,_,_,_,_,_],rfl,?_⟩
 exact⟨_,rfl,_,rfl,_,_,rfl,fun p H' s' hp'=>q p H' s' hp'⟩
theorem n8:aD ["triangle","point","pieces"] ["triangle","point"] (au i6):=.mk'
theorem xO:(["piece"]:List Str).Nodup:=by decide +kernel
theorem tG(F:Fun K "split_at" "split_at" i6 f fd)(cD:Cal P w K mg base 2 "doubled_area" ["triangle"] jG):FnOk P w K mg base CX0 3 f fd ["triangle","point"] sO:=by
 refine F.ok n8 (by rintro _ _ _ _⟨_,_,_,_,_,rfl,_⟩;rfl) fun C6 A outer s H vs Q E hr h=>?_
 obtain⟨l,rf,t,pt,p,rfl,hp,co,hpt,cp,q⟩:=h;refine⟨_,aq (ay (i:=2) n8.nd (cN (pa3 (cN (pa3 (am aF (pv 0) ad) (am aF (pv 0) ad) (pv 1))) (cN (pa3 (am aF (pv 0) ad) (am aF (pv 0) ad) (pv 1))) (cN (pa3 (am aF (pv 0) ad) (am aF (pv 0) ad) (pv 1))))))
  (ak (aC (fD (N':=["piece"]) (own:=1) (ae:=[]) rfl (aT.of (sc:=au i6) (N0:=["triangle","point","pieces"]) rfl rfl (by decide +kernel)) (b9 (pv 2)) (fun _ _ _ _ _ _=>(aI (i:=0) xO rfl (ZQ rfl))) (fun C cl fp aa s₂ H₂=>gU (aV ia (aB cD hr (pa1 (pv 0))) ad)) (fun _ _ _ _ _ _=>(pv 0))))),?_⟩
 refine⟨_,rfl,l,_,_,_,rfl,rfl,SqL.of hp.1,a30,_,rfl,l,_,_,_,rfl,rfl,SqL.of hp.1,a31,_,rfl,a_ (show 3<=1000 by decide),fun x1 n1=>?_⟩
 have T1:=mk3 n1 (p30 hp) (p31 hp) hpt;have s1:=ao n1 (.lst [.ref (rf 0),.ref (rf 1),.ref pt]);generalize upd H x1 (.lst [.ref (rf 0),.ref (rf 1),.ref pt])=H1 at *
 have hp1:=hp.mono s1;have hpt1:PtA H1 pt p:=s1 _ _ hpt;refine⟨_,rfl,l,_,_,_,rfl,rfl,SqL.of hp1.1,a31,_,rfl,l,_,_,_,rfl,rfl,SqL.of hp1.1,a32,_,rfl,a_ (show 3<=1000 by decide),fun x2 n2=>?_⟩
 have T2:=mk3 n2 (p31 hp1) (p32 hp1) hpt1;have s2:=ao n2 (.lst [.ref (rf 1),.ref (rf 2),.ref pt]);generalize upd H1 x2 (.lst [.ref (rf 1),.ref (rf 2),.ref pt])=H2 at *
 have hp2:=hp1.mono s2;have hpt2:PtA H2 pt p:=s2 _ _ hpt1;refine⟨_,rfl,l,_,_,_,rfl,rfl,SqL.of hp2.1,a32,_,rfl,l,_,_,_,rfl,rfl,SqL.of hp2.1,a30,_,rfl,a_ (show 3<=1000 by decide),fun x3 n3=>?_⟩
 have T3:=mk3 n3 (p32 hp2) (p30 hp2) hpt2;have s3:=ao n3 (.lst [.ref (rf 2),.ref (rf 0),.ref pt]);generalize upd H2 x3 (.lst [.ref (rf 2),.ref (rf 0),.ref pt])=H3 at *
 refine⟨a_ (show 3<=1000 by decide),fun D hD=>⟨[_,_,_],rfl,?_⟩⟩
 have s4:=ao hD (.lst [.ref x1,.ref x2,.ref x3]);have hD4:(upd H3 D (.lst [.ref x1,.ref x2,.ref x3])) D=some (.lst (aj 3 (rg3 x1 x2 x3))):=ah;have sH:=s1.trans (s2.trans (s3.trans s4));have T1:=T1.mono (s2.trans (s3.trans s4));have T2:=T2.mono (s3.trans s4);have T3:=T3.mono s4;generalize upd H3 D (.lst [.ref x1,.ref x2,.ref x3])=H4 at *
 have m1:=dG s1 n2;have m2:=dG (s1.trans s2) n3;clear s1 s2 s3 s4 hp1 hp2 hpt1 hpt2 n2 n3;refine⟨_,rfl,D,rfl,⟨_,SqL.of hD4⟩,?_⟩;have key:∀i,i<3->∃rg,PLs H4 (rg3 x1 x2 x3 i) rg (t3 ((cU t p).getD i t))/\aN (t3 ((cU t p).getD i t)):=fun i hi=>by
  rcases i with _|_|_|i
  ·exact⟨_,T1,co3 (c30 co) (c31 co) cp⟩
  ·exact⟨_,T2,co3 (c31 co) (c32 co) cp⟩
  ·exact⟨_,T3,co3 (c32 co) (c30 co) cp⟩
  ·omega
 refine iw (rf:=rg3 x1 x2 x3) (n:=3) (fun i=>decide (0<t2 ((cU t p).getD i t))) (a_ (by decide)) (SqL.of hD4) (fun i hi Qb hq=>?_) (fun D5 hD5=>?_)
 ·obtain⟨rg,z,cz⟩:=key i hi;exact⟨_,rfl,_,rg,_,rfl,z,cz,_,_,rfl,rfl,_,rfl,hq⟩
 ·have s5:=ao hD5 (.lst (((Z4 3).filter fun i=>decide (0<t2 ((cU t p).getD i t))).map fun i=>V.ref (rg3 x1 x2 x3 i)));have e:((Z4 3).filter fun i=>decide (0<t2 ((cU t p).getD i t))).map (fun i=>(cU t p).getD i t)=dk t p:=by
   have h0:cU t p=(Z4 3).map fun i=>(cU t p).getD i t:=rfl;have h1:=congrArg (Ug fun x=>decide (0<t2 x)) h0;rw[Wc]at h1;exact h1.symm
  refine q D5 (((Z4 3).filter fun i=>decide (0<t2 ((cU t p).getD i t))).map (rg3 x1 x2 x3)) _ (sH.trans s5) (dG sH hD5) (by rw[ah,Yl];rfl) ?_ (fun a ha=>?_)
  ·rw[<-e];refine tD fun j hj=>?_;obtain⟨rg,z,_⟩:=key j (Zt.mp (ZG.mp hj).1);exact⟨rg,z.mono s5⟩
  ·obtain⟨j,hj,rfl⟩:=Yu.mp ha;have hj:=Zt.mp (ZG.mp hj).1;rcases j with _|_|_|j
   ·exact n1
   ·exact m1
   ·exact m2
   ·omega
end
end FD
end
section
namespace FD
open PySem L2 FF
theorem kW{D i o:Int}:(i,o)∈bX D↔Way D i o:=by
 unfold bX Way;simp only[ZH,Yu,Zt,Wl];constructor
 ·rintro (⟨k,hk,e1,e2⟩|⟨k,hk,e1,e2⟩)
  ·left;lia
  ·right;lia
 ·rintro (⟨h1,h2,h3⟩|⟨h1,h2,h3⟩)
  ·left;exact⟨(i-1).toNat,by lia,by lia,by lia⟩
  ·right;exact⟨i.toNat,by lia,by lia,by lia⟩
theorem xT{D:Int}(h:0<=D)(h4:D<=400):(bX D).length<=800:=by
 unfold bX;rw[Z5,Z7,Z7,Y2,Y2];lia
noncomputable def eN(t:Tri)(s:Pt):Bool:=decide (s.1%t2 t=0)&&decide (s.2%t2 t=0)
theorem rD{t:Tri}(h2:2<=t2 t):∃s ss,(((bX (t2 t)).map fun w=>eC t w.1 w.2).filter (eN t))=s::ss/\Wp t (t.1.1+s.1/t2 t,t.1.2+s.2/t2 t):=by
 have ex:∃s,s∈((bX (t2 t)).map fun w=>eC t w.1 w.2).filter (eN t):=by
  obtain⟨i,o,hw,hx,hy⟩:=wn (a:=t.1) (b:=t.2.1) (c:=t.2.2) h2;refine⟨eC t i o,ZG.mpr ⟨Yu.mpr ⟨(i,o),kW.mpr hw,rfl⟩,?_⟩⟩;unfold eN;rw[Zo (show (eC t i o).1%t2 t=0 from hx),Zo (show (eC t i o).2%t2 t=0 from hy)];rfl
 cases z:((bX (t2 t)).map fun w=>eC t w.1 w.2).filter (eN t) with
 |nil=>rw[z]at ex;obtain⟨s,hs⟩:=ex;cases hs
 |cons s ss=>
  refine⟨s,ss,rfl,?_⟩;have hs:s∈((bX (t2 t)).map fun w=>eC t w.1 w.2).filter (eN t):=by rw[z];simp
  obtain⟨h1,h3⟩:=ZG.mp hs;obtain⟨⟨i,o⟩,hw,rfl⟩:=Yu.mp h1;unfold eN at h3;rw[Zc]at h3;exact⟨i,o,kW.mp hw,rfl,Zi h3.1,Zi h3.2⟩
section
variable{P:Zy}{w:Zm}{K:Z1}{mg:Str->Option Value}{base:ZE}{f:Addr}{fd:ZD}
theorem l7:aD ["triangle","parts","ways","steps","whole"] ["triangle"] (au k7):=.mk'
theorem o_:(["along"]:List Str).Nodup:=by decide +kernel
theorem wS:(["along","off","triangle"]:List Str).Nodup:=by decide +kernel
theorem pY:(["step","parts"]:List Str).Nodup:=by decide +kernel
set_option maxHeartbeats 1000000 in
theorem Cc(F:Fun K "point_within" "point_within" k7 f fd)(cD:Cal P w K mg base 2 "doubled_area" ["triangle"] jG)(cS:Cal P w K mg base 1 "step_into" ["triangle","along","off"] sN)(C4:mg "range" = none):FnOk P w K mg base CX0 3 f fd ["triangle"] zi:=by
 refine F.ok l7 (by rintro _ _ _ _⟨_,_,_,rfl,_⟩;rfl) fun C6 A outer s H vs Q E hr h=>?_
 obtain⟨l,rf,t,rfl,hp,co,d2,d4,q⟩:=h;refine⟨_,aq (ay (i:=1) l7.nd (aB cD hr (pa1 (pv 0))))
  (aq (ay (i:=2) l7.nd (ag gG (fD (N':=["along"]) (own:=1) (ae:=[]) rfl (aT.of (sc:=au k7) (N0:=["triangle","parts","ways","steps","whole"]) rfl rfl (by decide +kernel)) (nF rfl C4 (pa2 ad (pv 1))) (fun _ _ _ _ _ _=>(aI (i:=0) o_ rfl (ZQ rfl))) (fun C cl fp aa s₂ H₂=>eZ) (fun _ _ _ _ _ _=>(fO (pa2 (pv 0) ad)))) (fD (N':=["along"]) (own:=1) (ae:=[]) rfl (aT.of (sc:=au k7) (N0:=["triangle","parts","ways","steps","whole"]) rfl rfl (by decide +kernel)) (dH rfl C4 (pa1 (pv 1))) (fun _ _ _ _ _ _=>(aI (i:=0) o_ rfl (ZQ rfl))) (fun C cl fp aa s₂ H₂=>eZ) (fun _ _ _ _ _ _=>(fO (pa2 (pv 0) ad))))))
  (aq (c9 (i:=3) (N':=["along","off","triangle"]) (own:=2) (ae:=[0]) rfl (aT.of (sc:=au k7) (N0:=["triangle","parts","ways","steps","whole"]) rfl rfl (by decide +kernel)) l7.nd rfl (ZQ rfl) (b9 (pv 2)) (fun _ _ _ _ _ _=>(kw (n:=2) rfl (bD (aI (i:=0) wS rfl (ZQ rfl)) (bD (aI (i:=1) wS rfl (ZQ rfl)) gY)))) (fun C cl fp aa s₂ H₂=>eZ) (fun _ _ _ _ _ _=>(aB cS hr (pa3 (pv 2) (pv 0) (pv 1)))))
  (aq (c9 (i:=4) (N':=["step","parts"]) (own:=1) (ae:=[1]) rfl (aT.of (sc:=au k7) (N0:=["triangle","parts","ways","steps","whole"]) rfl rfl (by decide +kernel)) l7.nd rfl (ZQ rfl) (b9 (pv 3)) (fun _ _ _ _ _ _=>(aI (i:=0) pY rfl (ZQ rfl))) (fun C cl fp aa s₂ H₂=>gU (PW.pt (jt (aV dM (ag dC (am gW (pv 0) ad) (pv 1)) ad) (j7 (aV dM (ag dC (am gW (pv 0) ad) (pv 1)) ad))))) (fun _ _ _ _ _ _=>(pv 0)))
  (ak (aC (fO (pa2 (ag dX (am aw (am aF (pv 0) ad) ad) (ag nU (am aw (am aF (pv 4) ad) ad) (pv 1))) (ag dX (am aw (am aF (pv 0) ad) ad) (ag nU (am aw (am aF (pv 4) ad) ad) (pv 1)))))))))),?_⟩
 refine⟨_,rfl,l,rf,t,rfl,hp,co,[_,_,_,_,_],rfl,?_⟩;refine⟨_,rfl,_,_,rfl,⟨by decide,by decide,by lia,by lia⟩,(t2 t-1).toNat,fun i ys H'=>PtW H (fun i=>(1+(i:Int),0)) i ys H',a_ (by lia),PtW.nil l,fun ys H' hW=>⟨by show _<=_;lia,fun D1 hD1=>?_⟩,fun i ys H' hi hW=>⟨by show _<_;lia,fun x H2 hy=>?_⟩⟩
 rotate_left
 ·obtain⟨rfl,rfl⟩:=hy;exact⟨fP (by decide),dt ⟨_,rfl,_,_,rfl,fun t H4 s4 p4=>hW.snoc s4 p4⟩⟩
 obtain⟨s1,ts1,hp1⟩:=hW.fin hD1;generalize upd H' D1 (.lst ys)=H1 at *
 clear hW hD1;refine⟨_,rfl,_,rfl,by lia,by lia,(t2 t).toNat,fun i ys H'=>PtW H1 (fun i=>(0+(i:Int),1)) i ys H',a_ (by lia),PtW.nil l,fun ys H' hW=>⟨by show _<=_;lia,fun D2 hD2=>?_⟩,fun i ys H' hi hW=>⟨by show _<_;lia,fun x H2 hy=>?_⟩⟩
 rotate_left
 ·obtain⟨rfl,rfl⟩:=hy;exact⟨fP (by decide),dt ⟨_,rfl,_,_,rfl,fun t H4 s4 p4=>hW.snoc s4 p4⟩⟩
 obtain⟨s2,ts2,hp2⟩:=hW.fin hD2;generalize upd H' D2 (.lst ys)=H2 at *
 clear hW hD2;have hp1:=hp1.mono s2;have wl:=xT (D:=t2 t) (by lia) d4
 have wl':(bX (t2 t)).length=_:=Z5;refine⟨D1,D2,_,_,rfl,rfl,hp1.1,hp2.1,by rw[ai,ai,<-wl'];exact a_ (by lia),fun D3 hD3=>⟨[_,_,_,_,_],rfl,?_⟩⟩
 have hp3:=AW hp1 hp2 hD3;have s3:=ao hD3 (.lst (aj ((Z4 (t2 t-1).toNat).map fun (i:Nat)=>((1+(i:Int),0):Pt)).length ts1++aj ((Z4 (t2 t).toNat).map fun (i:Nat)=>((0+(i:Int),1):Pt)).length ts2));generalize upd H2 D3 (.lst (aj ((Z4 (t2 t-1).toNat).map fun (i:Nat)=>((1+(i:Int),0):Pt)).length ts1++aj ((Z4 (t2 t).toNat).map fun (i:Nat)=>((0+(i:Int),1):Pt)).length ts2))=H3 at *
 have sH3:=s1.trans (s2.trans s3);have hp3:PLs H3 D3 _ (bX (t2 t)):=hp3;generalize (fun i=>if i<((Z4 (t2 t-1).toNat).map fun (i:Nat)=>((1+(i:Int),0):Pt)).length then ts1 i else ts2 (i-((Z4 (t2 t-1).toNat).map fun (i:Nat)=>((1+(i:Int),0):Pt)).length))=rw3 at *
 clear hp1 hp2 s1 s2 s3 hD3 wl';have wb:∀i,i<(bX (t2 t)).length->Sm 1000 (at' (bX (t2 t)) i).1/\Sm 1000 (at' (bX (t2 t)) i).2:=fun i hi=>by
  have:=kW.mp (show ((at' (bX (t2 t)) i).1,(at' (bX (t2 t)) i).2)∈bX (t2 t) from cO hi)
  unfold Way at this;unfold Sm;lia
 have wf:=rD d2;have e4:((bX (t2 t)).map fun w=>eC t w.1 w.2)=(Z4 (bX (t2 t)).length).map fun i=>eC t (at' (bX (t2 t)) i).1 (at' (bX (t2 t)) i).2:=by
  have h1:=congrArg (List.map fun w:Pt=>eC t w.1 w.2) (kM (bX (t2 t)));rw[Yl]at h1;exact h1
 rw[e4]at wf;generalize bX (t2 t)=ws at *
 refine⟨_,rfl,D3,rfl,⟨_,SqL.of hp3.1⟩,?_⟩;refine⟨ws.length,fun i ys H'=>PtW H3 (fun i=>eC t (at' ws i).1 (at' ws i).2) i ys H',a_ (by lia),PtW.nil l,fun ys H' hW=>⟨⟨_,SqL.of (hW.1 _ _ hp3.1),by rw[ai];exact Nat.le_refl _⟩,fun D4 hD4=>⟨[_,_,_,_,_],rfl,?_⟩⟩,
  fun i ys H' hi hW=>⟨⟨_,_,SqL.of (hW.1 _ _ hp3.1),aR hi⟩,fun x H4 hy=>?_⟩⟩
 rotate_left
 ·obtain⟨rfl,hy⟩:=hy;obtain⟨_,rfl⟩:=bU (hy _ (SqL.of (hW.1 _ _ hp3.1)));refine⟨_,_,rfl,SqT.of (hW.1 _ _ (hp3.2 i hi)),rfl,_,_,rfl,_,_,rfl,rfl,l8 (by decide) (by decide),dt ?_⟩
  exact⟨_,rfl,_,rfl,_,rfl,l,rf,t,_,_,rfl,(hp.mono sH3).mono hW.1,co,(wb i hi).1,(wb i hi).2,fun p H5 s5 p5=>hW.snoc s5 p5⟩
 obtain⟨s4,ts4,hp4⟩:=hW.fin hD4;generalize upd H' D4 (.lst ys)=H4 at *
 clear hW hD4;have n4:((Z4 ws.length).map fun i=>eC t (at' ws i).1 (at' ws i).2).length<=800:=by rw[Z7,Y2];exact wl
 generalize ((Z4 ws.length).map fun i=>eC t (at' ws i).1 (at' ws i).2)=ss at *
 have d0:0<t2 t:=by lia
 refine⟨_,rfl,D4,rfl,⟨_,SqL.of hp4.1⟩,?_⟩;refine iw (rf:=ts4) (n:=ss.length) (fun i=>eN t (at' ss i)) (a_ (by lia)) (SqL.of hp4.1) (fun i hi Qb hq=>?_) (fun D5 hD5=>⟨[_,_,_,_,_],rfl,?_⟩)
 ·refine⟨_,rfl,_,_,_,_,rfl,rfl,SqT.of (hp4.2 i hi),at0,_,rfl,_,_,rfl,rfl,d0,rfl,_,rfl,?_⟩;unfold eN at hq;have ed:∀x:Int,decide (V.int x=V.int 0)=decide (x=0):=fun x=>by
   rw[ZP];simp
  rw[ed];refine a9 (fun c=>?_) (fun c=>?_)
  ·rw[c]at hq;refine⟨_,rfl,_,_,_,_,rfl,rfl,SqT.of (hp4.2 i hi),at1,_,rfl,_,_,rfl,rfl,d0,rfl,_,rfl,?_⟩;rw[ed];exact hq
  ·have c':decide ((at' ss i).1%t2 t=0)=false:=by simpa using c
   rw[c']at hq;exact hq
 have s5:=ao hD5 (.lst (((Z4 ss.length).filter fun i=>eN t (at' ss i)).map fun i=>V.ref (ts4 i)));obtain⟨rg5,hp5⟩:=i5 hp4 (eN t) s5 ah;generalize upd H4 D5 (.lst (((Z4 ss.length).filter fun i=>eN t (at' ss i)).map fun i=>V.ref (ts4 i)))=H5 at *
 obtain⟨s0,rest,ew,hW⟩:=wf;rw[ew]at hp5;have sH5:=sH3.trans (s4.trans s5);have hpT:=hp.mono sH5;have h0:PtA H5 (rg5 0) s0:=hp5.2 0 (by simp)
 have hT0:=p30 hpT;have Bd:Big (t2 t):=bv (by lia) (by lia)
 have a50:atI (aj (s0::rest).length rg5) 0=some (.ref (rg5 0)):=jZ (j:=0) (aR (by simp))
 refine⟨_,rfl,l,_,_,_,rfl,rfl,SqL.of hpT.1,a30,_,_,_,_,rfl,rfl,SqT.of hT0,at0,_,rfl,D5,_,_,_,rfl,rfl,SqL.of hp5.1,a50,_,_,_,_,rfl,rfl,SqT.of h0,at0,_,rfl,_,_,rfl,rfl,⟨d0,Bd⟩,_,_,rfl,rfl,_,rfl,l,_,_,_,rfl,rfl,SqL.of hpT.1,a30,_,_,_,_,rfl,rfl,SqT.of hT0,at1,_,rfl,D5,_,_,_,rfl,rfl,SqL.of hp5.1,a50,_,_,_,_,rfl,rfl,SqT.of h0,at1,_,rfl,_,_,rfl,rfl,⟨d0,Bd⟩,_,_,rfl,rfl,_,_,rfl,fun pt H6 s6 p6=>?_⟩;exact q _ pt H6 (sH5.trans s6) hW p6
end
end FD
end
section
namespace L2
open PySem PySem.W PySem.Spec PyProof.Rows
noncomputable def CX1(P:Zy)(w:Zm)(base:ZE):CXT:=fun outer H s E e s'=>∃(ea:Addr) (cls a0:Value) (H':Hp),e=.ref ea/\s'.os=s.os/\Wm s'.gens/\Un (frs outer) [] H H' s.heap s'.heap/\HOk P w H' s'.heap/\(∃B:ZE,base.StaysIn B/\WC B outer ea cls a0 s'.heap/\(∀b o,s.heap.get? b=some o->b∉frs outer->∃o',B.get? b=some o')/\∀b u,H' b=some u->∃o',B.get? b=some o')/\s.heap.get? ea=none/\H' ea=none/\E cls none H'
theorem bh.there{P:Zy}{w:Zm}{H:Hp}{h:ZE}{a:Addr}{o:HO}(x:bh P w H h a o):∃ob,h.get? a=some ob:=by
 cases o with
 |lst xs=>obtain⟨_,_,_,_,e⟩:=x;exact⟨_,e⟩
 |tup xs=>obtain⟨_,_,_,ob,e,_⟩:=x;exact⟨_,e⟩
 |dK CY=>obtain⟨_,_,_,_,o,_,_,e,_⟩:=x;exact⟨_,e⟩
 |dT CY=>obtain⟨_,_,_,_,o,_,_,e,_⟩:=x;exact⟨_,e⟩
 |set S n=>obtain⟨o,_,_,_,e,_⟩:=x;exact⟨_,e⟩
 |ins C dx fs=>obtain⟨_,_,_,e,_⟩:=x;exact⟨_,e⟩
 |own y=>obtain⟨_,e⟩:=x;exact⟨_,e⟩
 |xd fs=>obtain⟨_,⟨_,_,_,e,_⟩,_⟩:=x;exact⟨_,e⟩
 |rng lo hi=>obtain⟨_,_,_,e⟩:=x;exact⟨_,e⟩
 |frz ob u=>obtain⟨e,_⟩:=x;exact⟨_,e⟩
 |tbl ps=>exact⟨_,(show h.get? a=some _ from x)⟩
 |met f y=>exact⟨_,(show h.get? a=some _ from x)⟩
 |ext φ=>obtain⟨_,⟨_,e⟩,_⟩:=x;exact⟨_,e⟩
section
variable{P:Zy}{w:Zm}{K:Z1}{mg:Str->Option Value}{base:ZE}{N:List Str}{qual:Str}{scope:XT}{f:Addr}{cd:Value}{A:ZT}{outer:List Env}{s₀:Shared}{H₀:Hp}{E:XK}
theorem oV{aa:List (Addr×Obj)}{σ:St}{H:Hp}{s:Shared}{h1:ZE}{e:Addr}{cls:Value}{args:List Value}(I:Inv (hZ (CX1 P w base) P w K mg base N qual scope f cd A outer s₀ H₀ E) aa σ H s)
  (hx:UQ s.heap h1 e cls args)(q:E cls none H):(hZ (CX1 P w base) P w K mg base N qual scope f cd A outer s₀ H₀ E).xe (.ref e) {s with heap:=h1}:=by
 have stk:s.heap.FunFrames base (envOfC qual scope s₀.heap.objs.size f cd::outer):=I.stack;refine wpAny_leaves_madeW (base:=hideAll s.heap (frs (envOfC qual scope s₀.heap.objs.size f cd::outer))) (h:=s.heap) (L:=s₀.heap.objs.size) I.ok.frames rfl (fun b o e=>of_hideAll _ e) (UR stk fun env he a ea=>Xm.mpr ⟨env,he,ea⟩) hx fun h' t fl tup tn ups=>?_;have out:∀b o,s.heap.get? b=some o->b∉frs (envOfC qual scope s₀.heap.objs.size f cd::outer)->h'.get? b=some o:=fun b o e hb=>fl.1 b o (W2 _ e hb);have Lfr:∀b o,s₀.heap.get? b=some o->b∉frs outer->b∉frs (envOfC qual scope s₀.heap.objs.size f cd::outer):=fun b o e hb hm=>by
  have hm:b∈s₀.heap.objs.size::frs outer:=hm;rcases Zx.mp hm with z|z
  ·exact absurd (Zu e) (by rw[z];exact Nat.lt_irrefl _)
  ·exact hb z
 have slots:∀b o,s.heap.get? b=some o->b∈frs (envOfC qual scope s₀.heap.objs.size f cd::outer)->∃sl,h'.get? b=some {o with slots:=sl}:=fun b o e hm=>by
  obtain⟨_,o',C9,nf⟩:=stk.mem hm;rw[e]at C9;cases C9;exact ups b o (hx.keeps b o e) nf
 have ub:Un (frs outer) [] H₀ H s₀.heap s.heap:=I.base;have nfr:∀b u,H b=some u->b∉frs (envOfC qual scope s₀.heap.objs.size f cd::outer):=fun b u e hm=>by
  have:=I.stkFree b hm
  rw[e]at this;cases this
 refine⟨e,cls,.ref t,H,rfl,I.os,I.bare,⟨fun b o eb n hb hx'=>?_,fun b o eb n hb hx'=>?_,ub.free,fun b o eb hx'=>?_,ub.tups,ub.frzs,ub.tbls⟩,fun a o ea=>?_,⟨_,fun b o eb=>?_,fl,fun b o eb hb=>?_,fun b u eb=>?_⟩,?_,?_,q⟩
 ·exact out b o (ub.keep b o eb n hb hx') (Lfr b o eb hb)
 ·obtain⟨sl,h2⟩:=ub.slot b o eb n hb hx';obtain⟨sl',h3⟩:=slots b _ h2 (Z8 _ hb);exact⟨sl',h3⟩
 ·obtain⟨o',h2⟩:=ub.there b o eb hx';by_cases hb:b∈frs (envOfC qual scope s₀.heap.objs.size f cd::outer)
  ·obtain⟨sl,h3⟩:=slots b o' h2 hb;exact⟨_,h3⟩
  ·exact⟨_,out b o' h2 hb⟩
 ·refine (I.hok a o ea).stay (fun b u hb eb=>out b u eb ?_) (fun _ z=>z) fun _ _ z=>z;rcases hb with z|z
  ·rw[z];exact nfr a o ea
  ·exact nfr b _ z
 ·refine W2 _ (I.bs b o eb).1 fun hm=>?_
  have:=(stk.mem hm).1
  rw[eb]at this;cases this
 ·obtain⟨o',h2⟩:=ub.there b o eb (by simp)
  exact⟨o',W2 _ h2 (Lfr b o eb hb)⟩
 ·obtain⟨o',h2⟩:=(I.hok b u eb).there;exact⟨o',W2 _ h2 (nfr b u eb)⟩
 ·cases z:s₀.heap.get? e with
  |none=>rfl
  |some o=>
   obtain⟨o',h2⟩:=ub.there e o z (by simp)
   rw[hx.new]at h2;cases h2
 ·cases z:H e with
  |none=>rfl
  |some u=>
   obtain⟨o',h2⟩:=(I.hok e u z).there;rw[hx.new]at h2;cases h2
end
end L2
end
section
namespace L2
open PySem PySem.W PySem.Spec PyProof.Rows
structure uw(base:ZE)(C:Addr)(bm DM:List Value)(newId:String):Prop where
 at_:∃(nm q:Str) (N:Addr) (bs:List Value) (hdct:Bool) (sn:List Str) (sub:List Value) (ab:Bool) (col:Option Bool) (dd:Option Addr) (k0 k1 k2 k3 k5:Option Value) (mN:Str->Option Value),
  base.get? C=some (excClassObj nm q C N bs bm hdct sn sub ab col dd k0 k1 k2 k3 k5 newId)/\base.Ns N mN/\mN "__init__" = none
 tail:OwnTail base DM bm
noncomputable def kK(X:Cx)(R:Value->Hp->Prop):Prop:=∀(aa:List (Addr×Obj)) (σ:St) (H:Hp) (s:Shared) (h1:ZE) (e:Addr) (cls:Value) (args:List Value),Inv X aa σ H s->UQ s.heap h1 e cls args->R cls H->X.xe (.ref e) {s with heap:=h1}
noncomputable def vt(t:TA)(C:Addr)(R:Value->Hp->Prop):TS:=fun _ σ H=>t σ H fun vs H1=>vs.length<=sizeLine/\R (.ref C) H1
section
variable{X:Cx}
theorem xV{x:Str}{C:Addr}{bm DM bmN:List Value}{B Bn newId nid initId inN:String}{e₀:Expr}{es:List Expr}{np C8 pos:Pos}{t:TA}{R:Value->Hp->Prop}(hc:X.calm=true)(hg:Gl X x)(hm:X.mg x=some (.ref C))(O:uw X.base C bm DM newId)
  (Fn:TL Bn newId inN bmN)(hBn:DM.contains (.type Bn)=true)(F:TL B nid initId DM)(hR:kK X R)(ha:PA X (e₀::es) t)(D9:(x==("__debug__" : Str))=false:=by decide)
  (he:Zn (e₀::es) X.env=(false,eval e₀ X.env)::Zn es X.env:=by rfl)(D8:(backTo C8 (Zn es X.env)).any (·.1)=false:=by rfl):
  PS X (.Raise (some (.Call (.Name x np) (e₀::es) [] C8)) none pos) (vt t C R):=by
 intro aa s σ H D I h;obtain⟨nm,q,N,bs,hdct,sn,sub,ab,col,dd,k0,k1,k2,k3,k5,mN,hC,hN,hni⟩:=O.at_;refine wpAny_Raise_call_subU (C:=C) (nm:=nm) (q:=q) (N:=N) (bs:=bs) (bm:=bm) (hdct:=hdct) (sn:=sn) (sub:=sub) (ab:=ab) (col:=col) (dd:=dd) (k0:=k0) (k1:=k1) (k2:=k2) (k3:=k3) (k5:=k5)
  Fn hBn F (mN:=mN) (O.tail.hasType F.hasBase) (I.ok.hd hc) (by rw[he];show (false||(backTo C8 (Zn es X.env)).any (·.1))=false;rw[D8];rfl) hni (iO I hg hm ⟨rfl,?_⟩ D9)
 have hA:=ha C8 aa s σ H _ I h;rw[he]at hA ⊢;exact Vc (Y3 hA (fun us s1 ⟨vs,H1,I1,r,z,q⟩=>⟨rfl,by rw[<-r.length];exact z,I1.bk _ _ hC,hN.keeps I1.bk,O.tail.keeps I1.bk,fun h' e hm=>hR aa σ H1 s1 h' e _ _ I1 hm q⟩) fun _ _ y=>y)
end
theorem q9{P:Zy}{w:Zm}{K:Z1}{mg:Str->Option Value}{base:ZE}{N:List Str}{qual:Str}{scope:XT}{f:Addr}{cd:Value}{A:ZT}{outer:List Env}{s₀:Shared}{H₀:Hp}{E:XK}:
  kK (hZ (CX1 P w base) P w K mg base N qual scope f cd A outer s₀ H₀ E) fun cls H=>E cls none H:=fun _ _ _ _ _ _ _ _ I hx q=>oV I hx q
end L2
end
section
namespace L2
open PySem PySem.W PySem.Spec PyProof.Rows
section
variable{X:Cx}{aa:List (Addr×Obj)}{σ:List (Option V)}{H H':Hp}{s:Shared}{h':ZE}
theorem Inv.stepN{g':Array WD}{t':Nat}{d':Drawn}{ch:List Addr}(I:Inv X aa σ H s)
  (Di:∀b∈ch,X.s₀.heap.get? b=none/\b≠X.env.locals/\(∀x c,X.env.cells.lookup x=some c->c≠b)/\∀p∈X.pn++aa,p.1≠b)
  (keep:∀b o,b≠X.env.locals->b∉X.fs->b∉ch->s.heap.get? b=some o->H b=none->h'.get? b=some o)
  (slot:∀b o,b≠X.env.locals->b∈X.fs->b∉ch->s.heap.get? b=some o->H b=none->∃sl,h'.get? b=some {o with slots:=sl})(free:∀b o,b∉ch->s.heap.get? b=some o->H b=none->H' b=none)
  (there:∀b o,b∉ch->s.heap.get? b=some o->∃o',h'.get? b=some o')
  (tups:∀b xs,H b=some (.tup xs)->H' b=some (.tup xs))(frzs:∀b o u,H b=some (.frz o u)->H' b=some (.frz o u))(tbls:∀b ps,H b=some (.tbl ps)->∃more,H' b=some (.tbl (ps++more)))
  (ns:∀m,s.heap.Ns X.env.locals m->h'.Ns X.env.locals m)(hok:HOk X.prog X.w H' h')(hg:Wm g'):
  Inv X aa σ H' {s with heap:=h',gens:=g',drawn:=d',toks:=t'}:=by
 have neL:∀b o,X.s₀.heap.get? b=some o->b≠X.env.locals:=fun b o e=>Nat.ne_of_lt (Nat.lt_of_lt_of_le (Zu e) I.ok.above);have neC:∀b o,X.s₀.heap.get? b=some o->b∉X.ex->b∉ch:=fun b o e hx hb=>by
  have z:=(Di b hb).1;rw[e]at z;cases z
 have cellK:∀x c,X.env.cells.lookup x=some c->∀v,s.heap.IsCell c v->h'.IsCell c v:=fun x c e v ⟨o,ho,hd⟩=>by
  have nch:c∉ch:=fun z=>(Di c z).2.2.1 x c e rfl;by_cases hc:c∈X.fs
  ·obtain⟨sl,q⟩:=slot c o (I.cne x c e) hc nch ho (I.freeC x c e);exact⟨_,q,hd⟩
  ·exact⟨o,keep c o (I.cne x c e) hc nch ho (I.freeC x c e),hd⟩
 refine⟨I.ok,I.os,hg,⟨fun b o e n hb hx=>?_,fun b o e n hb hx=>?_,fun b o e n hx=>?_,fun b o e hx=>?_,fun b xs e=>tups b xs (I.base.tups b xs e),fun b o xs e=>frzs b o xs (I.base.frzs b o xs e),fun b ps e=>?_⟩,?_,fun x c e=>?_,?_,fun x c e=>?_,fun p hp=>?_,hok,I.len⟩
 ·exact keep b o (neL b o e) hb (neC b o e hx) (I.base.keep b o e n hb hx) (I.base.free b o e n hx)
 ·obtain⟨sl,e1⟩:=I.base.slot b o e n hb hx;obtain⟨sl',e2⟩:=slot b _ (neL b o e) hb (neC b o e hx) e1 (I.base.free b o e n hx);exact⟨sl',e2⟩
 ·obtain⟨o',e1⟩:=I.base.there b o e hx;exact free b o' (neC b o e hx) e1 (I.base.free b o e n hx)
 ·obtain⟨o',e1⟩:=I.base.there b o e hx;exact there b o' (neC b o e hx) e1
 ·obtain⟨m1,e1⟩:=I.base.tbls b ps e;obtain⟨m2,e2⟩:=tbls b _ e1;exact⟨m1++m2,by rw[e2,VW]⟩
 ·obtain⟨m,hn,hl⟩:=I.loc;refine⟨m,ns m hn,fun i x v e1 e2 e3=>?_⟩;obtain⟨u,r,l⟩:=hl i x v e1 e2 e3;refine⟨u,r,?_⟩;rcases l with l|⟨k,c,e,z⟩
  ·exact .inl l
  ·exact .inr ⟨k,c,e,cellK x c e _ z⟩
 ·obtain⟨v,z⟩:=I.cell x c e;exact⟨v,cellK x c e v z⟩
 ·obtain⟨m,⟨o,_,_,ho,_⟩,_⟩:=I.loc;exact free _ o (fun z=>(Di _ z).2.1 rfl) ho I.free
 ·obtain⟨v,o,ho,hd⟩:=I.cell x c e;exact free c o (fun z=>(Di c z).2.2.1 x c e rfl) ho (I.freeC x c e)
 ·obtain⟨e,n,ne,nf,d⟩:=I.pin p hp;have nch:p.1∉ch:=fun z=>(Di p.1 z).2.2.2 p hp rfl;exact⟨keep p.1 p.2 ne nf nch e n,free p.1 p.2 nch e n,ne,nf,d⟩
end
end L2
end
section
namespace L2
open PySem PySem.W PySem.Spec PyProof.Rows
section
variable{X:Cx}{aa:List (Addr×Obj)}{σ:St}{H:Hp}{s:Shared}
end
end L2
end
section
namespace L2
open PySem PySem.W PySem.Spec PyProof.Rows
noncomputable def jO(ea:Addr)(cls:Value):HO:=.ext fun h=>∃oe,h.get? ea=some oe/\oe.cls=cls
section
variable{X:Cx}{aa:List (Addr×Obj)}{σ:St}{H:Hp}{s s':Shared}
theorem nq{B h:ZE}{l:List Env}{ea:Addr}{cls a0:Value}(f:WC B l ea cls a0 h):∃T oT ts,h.get? T=some oT/\oT.data=.fields ts/\B.get? T=none/\T≠ea/\WC (hideAll h (ea::T::frs l)) l ea cls a0 h:=by
 obtain⟨f1,f2,f3,oe,vs,T,oT,ts,he,hc,hd,h1,hT0,hTe,hT,hdT,h3⟩:=f;refine⟨T,oT,ts,hT,hdT,hT0,hTe,fun b o e=>of_hideAll _ e,TM _ (by simp),UR f3 fun env he a ea'=>Z8 _ (Z8 _ (Xm.mpr ⟨env,he,ea'⟩)),oe,vs,T,oT,ts,he,hc,hd,h1,TM _ (by simp),hTe,hT,hdT,h3⟩
noncomputable def za(X:Cx)(aa:List (Addr×Obj))(b:Addr):Prop:=X.s₀.heap.get? b=none/\b≠X.env.locals/\(∀x c,X.env.cells.lookup x=some c->c≠b)/\∀p∈X.pn++aa,p.1≠b
theorem CJ{E:XK}{e:Value}{Q:Unit->Shared->Prop}{E':Value->Shared->Prop}(I:Inv X aa σ H s)(hex:X.ex=[])(CZ:frs X.stack=X.env.locals::X.fs)(hs:X.stack=X.env::X.outer)(hf:X.env.frame=some X.env.locals)(Em:CX1 X.prog X.w X.base X.stack H s E e s')
  (k:∀ea cls a0 H' h3 B,e=.ref ea->E cls none H'->H' ea=none->Inv X aa σ (upd H' ea (jO ea cls)) {s' with heap:=h3}->WC B X.stack ea cls a0 h3->za X aa ea->(∀T oT ts,h3.get? T=some oT->oT.data=.fields ts->B.get? T=none->T≠ea->za X aa T/\upd H' ea (jO ea cls) T=none)->Q () {s' with heap:=h3}):
  Zv (model X.prog X.w) X.A (noteFrame e X.env) (fun _ s₂=>Zv (model X.prog X.w) X.A (setFlight e none) Q E' s₂) E' s':=by
 obtain⟨ea,cls,a0,H',rfl,hos,hbare,un,hok,⟨B,hB,fl,hsub,htr⟩,D_,hH,hE⟩:=Em;have I1:Inv X aa σ H' s':=I.call' (ch:=[]) hos un hok hbare (fun b hb=>absurd hb (by simp))
 obtain⟨T,oT,ts,hT,hdT,hBT,hTe,flB⟩:=nq fl;have sT:s.heap.get? T=none:=by
  cases z:s.heap.get? T with
  |none=>rfl
  |some o=>
   by_cases hm:T∈frs X.stack
   ·obtain⟨_,o',C9,nf⟩:=I1.stack.mem hm;rw[hT]at C9;cases C9;exact absurd hdT (nf ts)
   ·obtain⟨o',z'⟩:=hsub T o z hm;rw[hBT]at z';cases z'
 have new:∀b,s.heap.get? b=none->X.s₀.heap.get? b=none/\b≠X.env.locals/\(∀x c,X.env.cells.lookup x=some c->c≠b)/\∀p∈X.pn++aa,p.1≠b:=fun b hb=>by
  refine⟨?_,fun z=>?_,fun x c ec z=>?_,fun p hp z=>?_⟩
  ·cases z:X.s₀.heap.get? b with
   |none=>rfl
   |some o=>
    obtain⟨o',z'⟩:=I.base.there b o z (by rw[hex];simp)
    rw[hb]at z';cases z'
  ·obtain⟨m,⟨o,es,ep,ho,_⟩,_⟩:=I.loc;rw[<-z,hb]at ho;cases ho
  ·obtain⟨v,o,ho,_⟩:=I.cell x c ec;rw[z,hb]at ho;cases ho
  ·have:=(I.pin p hp).1
   rw[z,hb]at this;cases this
 have frames:X.A.frames=some (X.env::X.outer):=by rw[<-hs];exact I.ok.frames
 rw[hs]at flB;refine wpAny_looks_onW frames hf flB fun h2 held ups=>wpAny_landsW held fun h3 fl3 ups3=>?_;have ups:=ups.trans ups3;rw[<-hs]at fl3;have out:∀b o,s'.heap.get? b=some o->b∉frs X.stack->b∉[ea,T]->h3.get? b=some o:=fun b o eb h1 h2=>fl3.1 b o (W2 _ eb (by
  intro z;simp only[Zx,Zr,or_false,not_or]at z h2;rcases z with z|z|z
  ·exact h2.1 z
  ·exact h2.2 z
  ·exact h1 z))
 have slots:∀b o,s'.heap.get? b=some o->b∈frs X.stack->∃sl,h3.get? b=some {o with slots:=sl}:=fun b o eb hm=>by
  obtain⟨_,o',C9,nf⟩:=I1.stack.mem hm;rw[eb]at C9;cases C9;exact ups b o eb nf
 have nfr:∀b u,H' b=some u->b∉frs X.stack:=fun b u eb hm=>by
  have:=I1.stkFree b hm
  rw[eb]at this;cases this
 have tn:H' T=none:=by
  cases z:H' T with
  |none=>rfl
  |some u=>
   obtain⟨o',z'⟩:=htr T u z;rw[hBT]at z';cases z'
 have nch:∀b u,H' b=some u->b∉[ea,T]:=fun b u eb hm=>by
  simp only[Zx,Zr,or_false]at hm;rcases hm with z|z
  ·rw[z,hH]at eb;cases eb
  ·rw[z,tn]at eb;cases eb
 have une:∀b u,H' b=some u->upd H' ea (jO ea cls) b=some u:=fun b u eb=>by
  rw[aG (fun z=>by rw[z,hH]at eb;cases eb)];exact eb
 refine k ea cls a0 H' h3 _ rfl hE hH ?_ fl3 (new ea D_) fun T2 oT2 ts2 h2T hd2 hB2 hne2=>?_;rotate_left
 ·have s2:s.heap.get? T2=none/\H' T2=none:=by
   by_cases hTT:T2=T
   ·rw[hTT];exact⟨sT,tn⟩
   ·have z:s'.heap.get? T2=none:=by
     cases z:s'.heap.get? T2 with
     |none=>rfl
     |some o=>
      by_cases hm:T2∈frs X.stack
      ·obtain⟨sl,z2⟩:=slots T2 o z hm;obtain⟨_,o',C9,nf⟩:=I1.stack.mem hm;rw[z]at C9;cases C9;rw[h2T]at z2;cases z2;exact absurd hd2 (nf ts2)
      ·have:=W2 (ea::T::frs X.stack) z (by
        intro zz;simp only[Zx]at zz;rcases zz with zz|zz|zz
        ·exact hne2 zz
        ·exact hTT zz
        ·exact hm zz)
       first
        | (rw[hB2]at this;cases this)
        | (rw[hs]at this;rw[hB2]at this;cases this)
    refine⟨?_,?_⟩
    ·cases z3:s.heap.get? T2 with
     |none=>rfl
     |some o=>
      obtain⟨o',z4⟩:=un.there T2 o z3 (by simp)
      rw[z]at z4;cases z4
    ·cases z3:H' T2 with
     |none=>rfl
     |some u=>
      obtain⟨o',z4⟩:=(I1.hok T2 u z3).there;rw[z]at z4;cases z4
  exact⟨new T2 s2.1,by rw[aG hne2];exact s2.2⟩
 refine I1.stepN (g':=s'.gens) (t':=s'.toks) (d':=s'.drawn) (ch:=[ea,T]) (fun b hb=>?_) (fun b o h1 h2 h3' eb _=>out b o eb (fun hm=>?_) h3') (fun b o h1 h2 h3' eb _=>slots b o eb (by rw[CZ];exact Z8 _ h2)) (fun b o hb eb n=>?_)
  (fun b o hb eb=>?_) (fun b xs eb=>une b _ eb) (fun b o u eb=>une b _ eb) (fun b ps eb=>⟨#[],by rw[une b _ eb];simp⟩) (fun m hm=>?_) (fun b o eb=>?_) I1.bare
 ·simp only[Zx,Zr,or_false]at hb;rcases hb with z|z
  ·rw[z];exact new ea D_
  ·rw[z];exact new T sT
 ·rw[CZ]at hm;rcases Zx.mp hm with z|z
  ·exact h1 z
  ·exact h2 z
 ·rw[aG (fun z=>hb (by simp[z]))];exact n
 ·by_cases hm:b∈frs X.stack
  ·obtain⟨sl,z⟩:=slots b o eb hm;exact⟨_,z⟩
  ·exact⟨_,out b o eb hm hb⟩
 ·obtain⟨o,es,ep,ho,hd,r⟩:=hm;obtain⟨sl,z⟩:=slots _ o ho (by rw[CZ];exact Zq)
  exact⟨_,es,ep,z,hd,r⟩
 ·by_cases hb:b=ea
  ·subst hb;rw[ah]at eb;cases eb;obtain⟨ob,h1,h2⟩:=fl3.there;exact⟨⟨ob,h1,h2⟩,⟨ob,h1⟩,fun h1 h2 ⟨o,z1,z2⟩ kk=>⟨o,kk o z1,z2⟩⟩
  ·rw[aG hb]at eb;refine (I1.hok b o eb).stay (fun c u hc ec=>out c u ec ?_ ?_) (fun c z=>une c _ z) fun c xs z=>une c _ z
   ·rcases hc with z|z
    ·rw[z];exact nfr b o eb
    ·exact nfr c _ z
   ·rcases hc with z|z
    ·rw[z];exact nch b o eb
    ·exact nch c _ z
end
end L2
end
section
namespace L2
open PySem PySem.W PySem.Spec PyProof.Rows
noncomputable abbrev Cx.marked(X:Cx)(e:Value)(E:Value->Shared->Prop):Cx:={X with A:=X.A.mark (some e),calm:=false,xe:=E}
theorem Cx.Ok.marked{X:Cx}(ok:X.Ok)(e:Value)(E:Value->Shared->Prop):(X.marked e E).Ok:=
 ⟨ok.mod,ok.kind,ok.glob,ok.blt,ok.above,ok.inj,ok.has,ok.cab,(fun h=>by cases h),ok.frames,ok.stk,ok.exf,ok.bs,ok.bsz,ok.noex,ok.exfs,ok.funs,ok.frf⟩
section
variable{X:Cx}{aa:List (Addr×Obj)}{σ:St}{H:Hp}{s:Shared}{e:Value}{E:Value->Shared->Prop}
theorem Inv.marked(I:Inv X aa σ H s)(e:Value)(E:Value->Shared->Prop):Inv (X.marked e E) aa σ H s:=⟨I.ok.marked e E,I.os,I.bare,I.base,I.loc,I.cell,I.free,I.freeC,I.pin,I.hok,I.len⟩
theorem Inv.unmark{E:Value->Shared->Prop}(ok:X.Ok)(I:Inv (X.marked e E) aa σ H s):Inv X aa σ H s:=⟨ok,I.os,I.bare,I.base,I.loc,I.cell,I.free,I.freeC,I.pin,I.hok,I.len⟩
theorem yp{cn:Str}{C:Addr}{ea:Addr}{cls:Value}{b:Bool}{np pos:Pos}{R:VX->Shared->Prop}(I:Inv X aa σ H s)(hg:Gl X cn)(hm:X.mg cn=some (.ref C))(he:∃oe,s.heap.get? ea=some oe/\oe.cls=cls)(hx:exmOne X.K cls (.ref C)=some b)
  (h:R (.ok (if b then .brk else .next)) s)(D9:(cn==("__debug__" : Str))=false:=by decide):
  XJ (model X.prog X.w) (X.A.mark (some (.ref ea))) (.handlers (.ref ea) [.ExceptHandler (some (.Name cn np)) none [] pos] X.env) R s:=by
 refine codeAny_handlers_test ?_;have I':=I.marked (.ref ea) (fun _ _=>True);refine iO (X:=X.marked (.ref ea) (fun _ _=>True)) I' hg hm ?_ D9;obtain⟨oe,h1,h2⟩:=he;have LT:Looks (model X.prog X.w) s.heap (typeOf (.ref ea)) cls:=by
  rw[<-h2];exact (Looks.ld h1).andThen .now
 exact (exm_one (M:=model X.prog X.w) I.kIn LT hx).here h
end
end L2
end
section
namespace L2
open PySem PySem.W PySem.Spec PyProof.Rows
section
variable{X:Cx}{aa:List (Addr×Obj)}{σ:St}{H:Hp}{s:Shared}
theorem flight_again{B:ZE}{ea:Addr}{cls a0:Value}{A:ZT}{Q:Unit->Shared->Prop}{E':Value->Shared->Prop}(I:Inv X aa σ H s)(hex:X.ex=[])(E1:H ea=some (jO ea cls))(fl:WC B X.stack ea cls a0 s.heap)
  (D_:∀T oT ts,s.heap.get? T=some oT->oT.data=.fields ts->B.get? T=none->T≠ea->(X.s₀.heap.get? T=none/\T≠X.env.locals/\(∀x c,X.env.cells.lookup x=some c->c≠T)/\∀p∈X.pn++aa,p.1≠T)/\H T=none)
  (D':X.s₀.heap.get? ea=none/\ea≠X.env.locals/\(∀x c,X.env.cells.lookup x=some c->c≠ea)/\∀p∈X.pn++aa,p.1≠ea)
  (k:∀h',Inv X aa σ H {s with heap:=h'}->Q () {s with heap:=h'}):Zv (model X.prog X.w) A (setFlight (.ref ea) none) Q E' s:=by
 obtain⟨T,oT,ts,hT,hdT,hBT,hTe,flB⟩:=nq fl;obtain⟨nT,tn⟩:=D_ T oT ts hT hdT hBT hTe;refine wpAny_setFlight_noneW flB.1 flB.2.2.1 (fl:=.none) flB.2.2.2 fun h' k1 k2 k3 k4=>k h' ?_;have out:∀b o,s.heap.get? b=some o->b∉[ea,T]->h'.get? b=some o:=fun b o eb hb=>by
  by_cases hm:b∈frs X.stack
  ·obtain⟨_,o',C9,nf⟩:=I.stack.mem hm;rw[eb]at C9;cases C9;exact k4 b o eb nf
  ·refine k1 b o (W2 _ eb fun z=>?_);simp only[Zx,Zr,or_false,not_or]at z hb;rcases z with z|z|z
   ·exact hb.1 z
   ·exact hb.2 z
   ·exact hm z
 have nch:∀b u,H b=some u->b≠ea->b∉[ea,T]:=fun b u eb hb hm=>by
  simp only[Zx,Zr,or_false]at hm;rcases hm with z|z
  ·exact hb z
  ·rw[z,tn]at eb;cases eb
 have neO:∀c,H c=some (.own ea)->c≠ea:=fun c z e=>by rw[e,E1]at z;cases z
 refine I.stepN (g':=s.gens) (t':=s.toks) (d':=s.drawn) (ch:=[ea,T]) (fun b hb=>?_) (fun b o _ _ h3 eb _=>out b o eb h3) (fun b o _ _ h3 eb _=>⟨o.slots,out b o eb h3⟩) (fun _ _ _ _ n=>n)
  (fun b o hb eb=>⟨_,out b o eb hb⟩) (fun _ _ e=>e) (fun _ _ _ e=>e) (fun b ps e=>⟨#[],by rw[e];simp⟩) (fun m hm=>?_) (fun b o eb=>?_) I.bare
 ·simp only[Zx,Zr,or_false]at hb;rcases hb with z|z
  ·rw[z];exact D'
  ·rw[z];exact nT
 ·obtain⟨o,es,ep,ho,hd,r⟩:=hm;refine⟨o,es,ep,out _ o ho ?_,hd,r⟩;simp only[Zx,Zr,or_false,not_or];exact⟨fun z=>D'.2.1 z.symm,fun z=>nT.2.1 z.symm⟩
 ·by_cases hb:b=ea
  ·subst hb;rw[E1]at eb;cases eb;obtain⟨oe,vs,T2,oT2,ts2,he2,hc2,_⟩:=k3;exact⟨⟨oe,he2,hc2.1⟩,⟨oe,he2⟩,fun h1 h2 ⟨o,z1,z2⟩ kk=>⟨o,kk o z1,z2⟩⟩
  ·refine (I.hok b o eb).stay (fun c u hc ec=>out c u ec ?_) (fun _ z=>z) fun _ _ z=>z;rcases hc with z|z
   ·rw[z];exact nch b o eb hb
   ·refine nch c _ z fun e=>?_;rw[e,E1]at z;cases z
end
end L2
end
section
namespace L2
open PySem PySem.W PySem.Spec PyProof.Rows
section
variable{X:Cx}{CX:CXT}{k:Nat}{f:Addr}{fd:ZD}{ps:List Str}{sp:Sp}{E:XK}
theorem vF{aa:List (Addr×Obj)}{σ:St}{H:Hp}{s:Shared}{Q:VK}{us:List Value}{vs:List V}{Ex:Value->Shared->Prop}(F:FnOk X.prog X.w X.K X.mg X.base CX k f fd ps sp)(hr:dw k X.A)(hb:Binds X.K fd ps [])
  (I:Inv X aa σ H s)(r:aJ vs us)(h:sp vs H Q E)(herr:∀e s',CX X.stack H s E e s'->Ex e s'):Zv (model X.prog X.w) X.A (call (.ref f) us) (EP X aa σ Q) Ex s:=by
 have hl:(us++[]).length=ps.length:=by rw[ZJ,<-r.length];exact F.len _ _ _ _ h
 have hb':=hb s us I.kIn hl;rw[ZJ]at hb';refine UD (XM (F.run X.A X.stack s H ⟨us,[]⟩ us vs Q E hr I.env0 hb' r h) fun r s' hq=>?_);cases r with
 |error e=>exact herr e s' hq
 |ok fl=>
  cases fl with
  |ret u=>exact I.after hq
  |next=>exact False.elim hq
  |brk=>exact False.elim hq
  |cont=>exact False.elim hq
end
end L2
end
section
namespace L2
open PySem PySem.W PySem.Spec PyProof.Rows
noncomputable def yf(K:Z1)(ta:TA)(sp:Sp)(C:Addr)(i:Nat)(ts:TS):TS:=fun D σ H=>ta σ H fun vs H1=>sp vs H1 (fun _ H2=>D.nx σ H2) fun cls _ H2=>exmOne K cls (.ref C)=some true/\
 ∀ea,H2 ea=none->ts {nx:=fun σ3 H3=>D.nx (σ3.set i none) H3,rt:=D.rt} (σ.set i (some (.ref ea))) (upd H2 ea (jO ea cls))
section
variable{X:Cx}{aa:List (Addr×Obj)}{σ:St}{H:Hp}{s:Shared}{i:Nat}{x:Str}{M:Tf}{A:ZT}{E:Value->Shared->Prop}
theorem name_goes{pos:Pos}{Q:Unit->Shared->Prop}(I:Inv X aa σ H s)(hN:X.N.Nodup)(hi:X.N[i]?=some x)(hk:X.env.kindOf x=some .local)
  (h:∀s',Inv X aa (σ.set i none) H s'->Q () s'):Zv M A (do bindName X.env x .none;unbindBehindTheSuite X.env x pos) Q E s:=by
 obtain⟨m,hn,hl⟩:=id I.loc;have hcls:(X.env.scope.kind==.class||(X.env.scope.kind==.module&&X.env.locals != X.env.globals))=false:=by rw[I.ok.kind];rfl
 have hiσ:i<σ.length:=by rw[I.len];exact (Zh.mp hi).1
 have low:∀{b:Addr} {o:Obj},X.s₀.heap.get? b=some o->b≠X.env.locals:=fun e=>Nat.ne_of_lt (Nat.lt_of_lt_of_le (Zu e) I.ok.above);refine wpAny_nameGoes_keeps hk hn hcls fun h' v hn' hs=>h _ ?_;obtain⟨oL,_,_,hoL,_⟩:=id hn;have B:=I.base;refine {ok:=I.ok,os:=I.os,bare:=I.bare,base:=⟨fun b o e n hb hx=>(hs.2 b (low e)).trans (B.keep b o e n hb hx),fun b o e n hb hx=>?_,B.free,fun b o e hx=>?_,B.tups,B.frzs,B.tbls⟩,loc:=⟨_,hn',fun j y v' e1 e2 e3=>?_⟩,cell:=fun y c e=>?_,free:=I.free,freeC:=I.freeC,pin:=fun p hp=>?_,hok:=fun b ob e=>?_,len:=by simpa using I.len}
 ·obtain⟨sl,e1⟩:=B.slot b o e n hb hx;exact⟨sl,(hs.2 b (low e)).trans e1⟩
 ·obtain⟨o',e1⟩:=B.there b o e hx;exact⟨o',(hs.2 b (low e)).trans e1⟩
 ·have hj:j≠i:=by
   rintro rfl;rw[W3 hiσ]at e2;cases e2
  rw[Xy (Ne.symm hj)]at e2;obtain⟨u',r',q⟩:=hl j y v' e1 e2 e3;refine⟨u',r',?_⟩;rcases q with ⟨k,e⟩|⟨k,c,e,z⟩
  ·have:y≠x:=fun e=>hj (lg hN e1 (e ▸ hi))
   exact .inl ⟨k,by simp[this,e]⟩
  ·exact .inr ⟨k,c,e,z.sameBut hs (I.cne y c e)⟩
 ·obtain⟨w',z⟩:=I.cell y c e;exact⟨w',z.sameBut hs (I.cne y c e)⟩
 ·obtain⟨e,n,ne,nf,d⟩:=I.pin p hp;exact⟨(hs.2 p.1 ne).trans e,n,ne,nf,d⟩
 ·refine (I.hok b ob e).stay (fun c w' hc q=>(hs.2 c ?_).trans q) (fun _ q=>q) fun _ _ q=>q;rintro rfl;rcases hc with rfl|hc
  ·rw[I.free]at e;cases e
  ·rw[I.free]at hc;cases hc
end
section
variable{X:Cx}{k:Nat}{f C:Addr}{fd:ZD}{ps:List Str}{sp:Sp}{x cn n:Str}{p np C8 E3 Dl pos:Pos}{e:Expr}{es:List Expr}{b₀:Stmt}{Dy:List Stmt}{ta:TA}{ts:TS}{i:Nat}
theorem uB(Ey:∀e s,X.xe e s->False)(hex:X.ex=[])(CZ:frs X.stack=X.env.locals::X.fs)(hs:X.stack=X.env::X.outer)(hf:X.env.frame=some X.env.locals)
  (F:FnOk X.prog X.w X.K X.mg X.base (CX1 X.prog X.w X.base) k f fd ps sp)(hr:dw k X.A)(hg:Gl X x)(hm:X.mg x=some (.ref f))(hk:YG X.K (.ref f)=true)(hb:Binds X.K fd ps [])
  (ha:PA X (e::es) ta)(hgc:Gl X cn)(hmc:X.mg cn=some (.ref C))(hN:X.N.Nodup)(hi:X.N[i]?=some n)(hn:Loc X.env.scope n)(DV:X.env.kindOf n=some .local)(hfn':X.env.scope.names.lookup n=some .local)
  (hsu:∀ea,PSs (X.marked (.ref ea) (fun _ _=>False)) (b₀::Dy) ts)
  (D9:(x==("__debug__" : Str))=false:=by decide)(hdc:(cn==("__debug__" : Str))=false:=by decide)(he:Zn (e::es) X.env=(false,eval e X.env)::Zn es X.env:=by rfl)(D8:(backTo C8 (Zn es X.env)).any (·.1)=false:=by rfl)(DZ:swapsWith (.Call (.Name x p) (e::es) [] C8) none E3.line X.env=pure false:=by rfl):
  PS X (.Try [.Expr (.Call (.Name x p) (e::es) [] C8) E3] [.ExceptHandler (some (.Name cn np)) (some n) (b₀::Dy) Dl] [] [] pos) (yf X.K ta sp C i ts):=by
 intro aa s σ H D I h;refine wpAny_Try_except (Wu (UA ?_ I.quiet DZ));refine YC (iO I hg hm ?_ D9);refine VY (h₀:=X.base) I.ok.mod.kin hk (Y3 (ha C8 aa s σ H _ I h) (fun us s1 ⟨vs,H1,I1,r,q⟩=>⟨I1.kIn,?_⟩) (fun e s z=>(Ey e s z).elim)) he D8;refine Y3 (vF (Q:=fun _ H2=>D.nx σ H2) F hr hb I1 r q (Ex:=fun e s₁=>Zv (model X.prog X.w) X.A (noteFrame e X.env) (fun _ s₂=>Zv (model X.prog X.w) X.A (setFlight e none) (fun _ s₃=>Zv (model X.prog X.w) X.A (handleBy e X.env [.ExceptHandler (some (.Name cn np)) (some n) (b₀::Dy) Dl]) (SP X aa D) X.xe s₃) X.xe s₂) X.xe s₁) (fun e s' Em=>?_)) (fun u s2 hu=>?_) (fun _ _ z=>z)
 ·refine CJ I1 hex CZ hs hf Em fun ea cls a0 H' h3 B ee hE hH I3 fl3 nea nT=>?_;subst ee;obtain⟨hxm,hsuite⟩:=hE;refine wpAny_handleBy_cons (yp I3 hgc hmc fl3.there hxm ?_ hdc) (by intro q;cases q)
  refine codeAny_handlers_suite_as (flight_again (A:=X.A.mark (some (.ref ea))) I3 hex ah fl3 (fun T oT ts h1 h2 h3 h4=>nT T oT ts h1 h2 h3 h4) nea fun h4 I4=>?_);refine i9 I4 hN hi hn (v:=.ref ea) rfl (fun s5 I5=>?_) (.inr hfn');have I5':=I5.marked (.ref ea) (fun _ _=>False);refine Y3 (hsu ea aa s5 _ _ _ I5' (hsuite ea hH)) (fun fl s6 h6=>?_) (fun _ _ z=>z.elim);show Zv (model X.prog X.w) X.A (do bindName X.env n .none;unbindBehindTheSuite X.env n Dl) (fun _ s₃=>SP X aa D fl s₃) X.xe s6
  cases fl with
  |next=>
   obtain⟨σ',H'',I6,q6⟩:=h6;exact name_goes (I6.unmark I3.ok) hN hi DV fun s7 I7=>⟨_,_,I7,q6⟩
  |ret u=>
   obtain⟨v,σ',H'',I6,rv,q6⟩:=h6;exact name_goes (I6.unmark I3.ok) hN hi DV fun s7 I7=>⟨_,_,_,I7,rv,q6⟩
  |brk=>obtain⟨_,_,_,q6⟩:=h6;exact q6.elim
  |cont=>obtain⟨_,_,_,q6⟩:=h6;exact q6.elim
 ·obtain⟨v,H2,I2,rv,q2⟩:=hu;exact Xh (Xh ⟨σ,H2,I2,q2⟩)
end
end L2
end
section
namespace L2
open PySem PySem.W PySem.Spec PyProof.Rows PySem.Calls Builtin Builtin.ObjectAttr Builtin.Getset_descriptor
structure fk(K:Z1)(C:Addr):Prop where
 ga:findIn K (.ref C) "__getattribute__" = some (some (.builtin "BaseException.__getattribute__"))
 gn:findIn K (.ref C) "__getattr__" = some none
 ca:findIn K (.ref C) "__class__" = some (some (.builtin "object.__class__"))
 mo:mroIn K C (.type "object")=some true
 mb:mroIn K C (.type "BaseException")=some true
 is:(clsIn K C).isSome=true
section
variable{prog:Zy}{w:Zm}{A:ZT}{E:Value->Shared->Prop}{h:ZE}{g:Array WD}{d:Drawn}{t:Nat}{os:OsState}{a C:Addr}{o:Obj}{K:Z1}
theorem se{M:Tf}(hx:h.get? a=some o)(hc:o.cls=.ref C):Looks M h (typeOf (.ref a)) (.ref C):=hc ▸ (Looks.ld hx).andThen .now
theorem AZ{R:VX->Shared->Prop}{tp:Value}(X:K.In h)(Z:fk K C)(hx:h.get? a=some o)(hc:o.cls=.ref C)(hq:R (.ok (.ret (.ref C))) ⟨h,g,d,t,os⟩):
  XJ (model prog w) A (.call (.builtin "getset_descriptor.__get__") ⟨[.builtin "object.__class__",.ref a,tp],[]⟩) R ⟨h,g,d,t,os⟩:=by
 have L0:=se (M:=model prog w) hx hc;have L1:=S9 (M:=model prog w) X Z.mo;refine Wj KF.slot_gs.plain KF.entry_gs (KF.slot_gs.check _ _ _ _ _ _ _ _ KF.type_class (KF.args_gs _ _ _) ?_);unfold WS.«getset_descriptor.__get__» descrGet;rw[dga_obj];refine Z0 (Z6 ?_);unfold descrGetter descrCheckInstance descrNameAndClass isInstance;simp only[KF.owner_class]
 repeat lk
 refine⟨U2 _ (by decide +kernel),Xe KF.entry_class ?_⟩
 unfold WS.«object.__class__» shownTypeOf
 repeat lk
 exact hq
theorem yv{tk:Tok}{Q:Fin->Shared->Prop}(X:K.In h)(Z:fk K C)(hx:h.get? a=some o)(hc:o.cls=.ref C)(hq:Q (.done (.ret (.ref C))) ⟨h,g,d,t,os⟩):
  Zv (model prog w) A (WS.«object.__getattribute__» ⟨[.ref a,.str "__class__" tk],[]⟩) Q E ⟨h,g,d,t,os⟩:=by
 have L2:=Ut (M:=model prog w) X Z.ca;have hT5:(⟨h,g,d,t,os⟩:Shared).TypeIs (.builtin "object.__class__") "getset_descriptor" :=F.typeOf_object_class;have f5:=F.typeOf_object_class;have f6:=F.slot_gs_get.lookup;have f7:=F.slot_gs_set.lookup
 repeat (any_goals (first|assumption| (with_reducible refine WV hx ?_;rw[hc])|with_reducible refine US L2 ?_|wp_step))
 refine AZ X Z hx hc ?_
 repeat (any_goals (first|assumption|wp_step))
theorem xH{M:Tf}{DQ:Value}{Q:Unit->Shared->Prop}(X:K.In h)(Z:fk K C)(hx:h.get? a=some o)(hc:o.cls=.ref C)(hq:Q () ⟨h,g,d,t,os⟩):Zv M A (checkBuiltinCall "BaseException.__getattribute__" ⟨[.ref a,DQ],[]⟩) Q E ⟨h,g,d,t,os⟩:=by
 have hk:builtinKind "BaseException.__getattribute__" = some .slot:=by decide +kernel
 have hsplit:splitId "BaseException.__getattribute__" = some ("BaseException","__getattribute__"):=by decide +kernel
 have ha:=F.args_bexc_ga (.ref a) DQ;have L1:=S9 (M:=M) X Z.mb;simp only[checkBuiltinCall,hk,hsplit];refine Z0 ?_;unfold isInstance
 repeat (first| (with_reducible refine WV hx ?_;rw[hc])|with_reducible refine US L1 ?_|wp_step)
 exact hq
theorem Cy{tk:Tok}{fill expr:Bool}{Q:Value->Shared->Prop}(X:K.In h)(Z:fk K C)(hx:h.get? a=some o)(hc:o.cls=.ref C)(hq:Q (.ref C) ⟨h,g,d,t,os⟩):
  Zv (model prog w) A (getAttrBy (.ref a) (.str "__class__" tk) fill expr) Q E ⟨h,g,d,t,os⟩:=by
 have f3:=F.excAttr_ValueError.ga.bind (.ref a);have Ey:(expr&&onTheHeap (Value.builtin "BaseException.__getattribute__"))=false:=by cases expr<;>rfl
 have hx2:(Value.builtin "BaseException.__getattribute__"==Value.builtin "object.__getattribute__")=false:=by decide +kernel
 have hx1:(onTheHeap (Value.ref C)&&Value.builtin "BaseException.__getattribute__"==Value.builtin "object.__getattribute__")=false:=by rw[hx2];rfl
 have L1:=Ut (M:=model prog w) X Z.ga;have L2:=Ut (M:=model prog w) X Z.gn
 repeat (any_goals (first|assumption| (with_reducible refine WV hx ?_;rw[hc])|with_reducible refine US L1 ?_|with_reducible refine US L2 ?_|wp_step))
 refine Wj F.excAttr_ValueError.ga.plain F.entry_bexc_ga (xH X Z hx hc (yv X Z hx hc ?_))
 repeat (any_goals (first|assumption|wp_step))
theorem Ai{Q:Option Value->Shared->Prop}(X:K.In h)(Z:fk K C)(hx:h.get? a=some o)(hc:o.cls=.ref C)(hq:Q (some (.ref C)) ⟨h,g,d,t+1,os⟩):Zv (model prog w) A (getAttr? (.ref a) "__class__") Q E ⟨h,g,d,t,os⟩:=by
 unfold getAttr? getAttrBy?
 repeat (any_goals (first|assumption|with_reducible apply Cy X Z hx hc|wp_step))
theorem pI(Z:fk K C):KitX K (.ref a) (.ref C) (fun h=>∃o,h.get? a=some o/\o.cls=.ref C) where
 ty:=fun M h _ ⟨o,hx,hc⟩=>se hx hc
 it:=fun M h X _=>by
  obtain⟨cd,hcD⟩:=XV.mp Z.is;unfold clsIn at hcD
  split at hcD
  ·rename_i c' d' cd' sl' ho;intro A' Q' E' s' k q;unfold isType loadHead;exact Z0 (wpAny_loadPart (k _ _ (X _ _ ho)) (Z6 q))
  ·cases hcD
 ne:=fun h tp dd f' n sl X htp=>by
  obtain⟨cd,hcD⟩:=XV.mp Z.is;refine Yc.mpr fun q=>?_;have e:C=tp:=Value.ref.inj (beq_iff_eq.mp q);subst e;unfold clsIn at hcD
  split at hcD
  ·rename_i c' d' cd' sl' ho
   have:=X _ _ ho
   rw[htp]at this;cases this
  ·cases hcD
 ca:=fun {prog w A E Q s} X ⟨o,hx,hc⟩ q=>by
  obtain⟨h,g,d,t,os⟩:=s;exact Ai X Z hx hc q
end
section
variable{X:Cx}
noncomputable def Cf(b:Bool)(C:Addr)(cv:V):List V->Hp->VK->Prop:=fun xs H Q=>∃ea,xs=[.ref ea,cv]/\H ea=some (jO ea (.ref C))/\Q (.bl b) H
theorem l6{b:Bool}{c:Value}{cv:V}{C:Addr}(Z:fk X.K C)(e:Y7 X.K (.ref C) c=some b)(hc:∀u,RelV cv u->u=c):cZ X (.builtin "isinstance") (Cf b C cv):=by
 intro aa s σ H xs us Q I r h;obtain⟨ea,rfl,eo,q⟩:=h;obtain⟨u,v,rfl,ra,rb⟩:=vals2 r;cases (show u=Value.ref ea from ra)
 rw[hc v rb];obtain⟨φ,_⟩:=(show bh X.prog X.w H s.heap ea (.ext _) from I.hok ea _ eo)
 exact Yp (pI Z) I.kIn φ e (fun z=>nomatch z) fun tk=>⟨.bl b,H,I.tok _,rfl,q⟩
noncomputable def Ak(b:Bool)(C c1 c2:Addr):List V->Hp->VK->Prop:=fun xs H Q=>∃ea tp,xs=[.ref ea,.ref tp]/\H ea=some (jO ea (.ref C))/\H tp=some (.tup [.ref c1,.ref c2])/\Q (.bl b) H
theorem rd{b:Bool}{c1 c2:Addr}{C:Addr}(Z:fk X.K C)(e:VE X.K (.ref C) [.ref c1,.ref c2]=some b):cZ X (.builtin "isinstance") (Ak b C c1 c2):=by
 intro aa s σ H xs us Q I r h;obtain⟨ea,tp,rfl,eo,et,q⟩:=h;obtain⟨u,v,rfl,ra,rb⟩:=vals2 r;cases (show u=Value.ref ea from ra)
 cases (show v=Value.ref tp from rb)
 obtain⟨φ,_⟩:=(show bh X.prog X.w H s.heap ea (.ext _) from I.hok ea _ eo)
 obtain⟨_,f',rv,o,ho,hcl,n,hd⟩:=(show bh X.prog X.w H s.heap tp (.tup _) from I.hok tp _ et)
 obtain⟨u1,u2,rfl,r1,r2⟩:=vals2 rv;cases (show u1=Value.ref c1 from r1)
 cases (show u2=Value.ref c2 from r2)
 obtain⟨oc,od,oda,Dz⟩:=o;dsimp only at hcl hd;subst hcl hd;exact PySem.W.kia_tup (pI Z) I.kIn φ ho e (fun z=>nomatch z) fun tk=>⟨.bl b,H,I.tok _,rfl,q⟩
end
section
variable{P:Zy}{w:Zm}{K:Z1}{mg:Str->Option Value}{base:ZE}
theorem Fun.okX{x qual:Str}{st:Stmt}{f:Addr}{fd:ZD}{N ps:List Str}{k:Nat}{sp:Sp}(F:Fun K x qual st f fd)(S:aD N ps (au st))(len:∀vs H Q E,sp vs H Q E->vs.length=ps.length)
  (Dc:∀(C6:Value) (A:ZT) (outer:List Env) (s:Shared) (H:Hp) (vs:List V) (Q:VK) (E:XK),dw k (A.deeper (envOfC qual (au st) s.heap.objs.size f C6))->sp vs H Q E->
   ∃t,PSs (hZ (CX1 P w base) P w K mg base N qual (au st) f C6 A outer s H E) (cV st) t/\t {nx:=fun _ H'=>Q .non H',rt:=Q} (start N vs) H):FnOk P w K mg base (CX1 P w base) (k+1) f fd ps sp:=by
 obtain⟨oc,od,kV,doc,pm,an,C6,ct,Dz,rfl,lk,Dj⟩:=F.ex;exact y9 lk Dj S len fun A outer s H vs Q E hr Dq=>Dc C6 A outer s H vs Q E hr Dq
structure qG(P:Zy)(w:Zm)(K:Z1)(mg:Str->Option Value)(base:ZE)(n:Nat)(x:Str)(ps:List Str)(sp:Sp):Prop where
 ex:∃f fd,FnOk P w K mg base (CX1 P w base) n f fd ps sp/\Binds K fd ps []/\YG K (.ref f)=true/\mg x=some (.ref f)
theorem qG.of{n:Nat}{x:Str}{ps:List Str}{sp:Sp}{f:Addr}{fd:ZD}(F:FnOk P w K mg base (CX1 P w base) n f fd ps sp)(b:Binds K fd ps [])(k:YG K (.ref f)=true)(m:mg x=some (.ref f)):qG P w K mg base n x ps sp:=⟨f,fd,F,b,k,m⟩
end
end L2
end
section
namespace L2
open PySem PySem.W PySem.Spec PyProof.Rows
noncomputable def nsQ(K:Z1)(N:Addr):Bool:=match K.lookup N with
 |some ⟨_,_,.dict es _,_⟩=>es.all (fun e=>match e.key with| .str _ _=>true|_=>false)&&(nsFind es "__init__").isNone
 |_=>false
noncomputable def mC(K:Z1)(C:Addr):Bool:=match K.lookup C with
 |some ⟨_,_,.cls cd,_⟩=>nsQ K cd.ns
 |_=>false
noncomputable def yR(K:Z1)(C:Addr)(bm:List Value)(newId:String):Bool:=match K.lookup C with
 |some ⟨.type T,_,.cls cd,sl⟩=>T=="type"&&cd.mro==.ref C::bm&&!cd.hasDel&&(match sl with|⟨[_,_,_,_,some (.builtin i),_]⟩=>i==newId|_=>false)
 |_=>false
noncomputable def yG(K:Z1)(C:Addr):Bool:=
 findIn K (.ref C) "__getattribute__"==some (some (.builtin "BaseException.__getattribute__"))&&findIn K (.ref C) "__getattr__"==some none&&findIn K (.ref C) "__class__"==some (some (.builtin "object.__class__"))&&
  mroIn K C (.type "object")==some true&&mroIn K C (.type "BaseException")==some true&&(clsIn K C).isSome
theorem vX{K:Z1}{C:Addr}(h:yG K C=true):fk K C:=by
 unfold yG at h;simp only[Zc,beq_iff_eq]at h;obtain⟨⟨⟨⟨⟨h1,h2⟩,h3⟩,h4⟩,h5⟩,h6⟩:=h;exact⟨h1,h2,h3,h4,h5,h6⟩
theorem zd{K:Z1}{N:Addr}{base:ZE}(X:K.In base)(h:nsQ K N=true):∃m,base.Ns N m/\m "__init__" = none:=by
 unfold nsQ at h
 split at h
 ·rename_i c d es ep sl e;rw[Zc]at h;refine⟨fun n=>nsFind es n,⟨_,es,ep,X _ _ e,rfl,fun x hx=>?_,fun _=>rfl⟩,Option.isNone_iff_eq_none.mp h.2⟩;have q:=(Array.all_eq_true'.mp h.1) x hx
  split at q
  ·rename_i a b hk;exact⟨a,b,hk⟩
  ·cases q
 ·cases h
theorem AT{K:Z1}{C A:Addr}{DM:List Value}{newId:String}{base:ZE}(X:K.In base)(h1:yR K C (.ref A::DM) newId=true)(h2:mC K C=true)(h3:mC K A=true):uw base C (.ref A::DM) DM newId:=by
 refine⟨?_,?_⟩
 ·unfold mC at h2;unfold yR at h1
  split at h1
  ·rename_i T d cd sl e;rw[e]at h2;dsimp only at h2;simp only[Zc,beq_iff_eq,Ym]at h1;obtain⟨⟨⟨rfl,hm⟩,hd⟩,hs⟩:=h1;obtain⟨m,hN,hi⟩:=zd X h2
   split at hs
   ·rename_i k0 k1 k2 k3 i k5;obtain rfl:=beq_iff_eq.mp hs;obtain⟨nm,bs,mro,ns,q,hdct,sn,sub,ab,col,hdl⟩:=cd;dsimp only at hm hd hN;subst hm hd;exact⟨nm,q,ns,bs,hdct,sn,sub,ab,col,d,k0,k1,k2,k3,k5,m,X _ _ e,hN,hi⟩
   ·cases hs
  ·cases h1
 ·unfold mC at h3
  split at h3
  ·rename_i c d cd sl e;obtain⟨m,hN,hi⟩:=zd X h3;exact .own (X _ _ e) hN hi .base
  ·cases h3
noncomputable abbrev qe:List Value:=[.type "ValueError",.type "Exception",.type "BaseException",.type "object"]
theorem tM{X:Cx}{x:Str}{C A:Addr}{e₀:Expr}{es:List Expr}{np C8 pos:Pos}{t:TA}{R:Value->Hp->Prop}(hc:X.calm=true)(hg:Gl X x)(hm:X.mg x=some (.ref C))(O:uw X.base C (.ref A::qe) qe "ValueError.__new__")
  (hR:kK X R)(ha:PA X (e₀::es) t)(D9:(x==("__debug__" : Str))=false:=by decide)
  (he:Zn (e₀::es) X.env=(false,eval e₀ X.env)::Zn es X.env:=by rfl)(D8:(backTo C8 (Zn es X.env)).any (·.1)=false:=by rfl):
  PS X (.Raise (some (.Call (.Name x np) (e₀::es) [] C8)) none pos) (vt t C R):=
 xV hc hg hm O F.excBase_ValueError (by decide +kernel) F.excBase_ValueError hR ha D9 he D8
end L2
end
section
namespace FF
theorem BJ:c6 cr:=⟨fun p q=>by unfold cr;lia,fun a b p h _ _=>by unfold turn at h;unfold cr;grind⟩
theorem kJ(F:Pt->Pt->Int)(xs ys:List Tri):aO F (xs++ys)=aO F xs+aO F ys:=by
 induction xs with
 |nil=>show aO F ys=0+aO F ys;lia
 |cons x xs ih=>
  have e:aO F (x::xs++ys)=tri F x+aO F (xs++ys):=rfl;have e2:aO F (x::xs)=tri F x+aO F xs:=rfl;rw[e,e2,ih];lia
theorem yL{ts:List Tri}(h:∀t∈ts,t2 t=1):aO cr ts=(ts.length:Int):=by
 induction ts with
 |nil=>rfl
 |cons x xs ih=>
  have e2:aO cr (x::xs)=tri cr x+aO cr xs:=rfl;have h1:tri cr x=1:=(jy x).trans (h x (by simp))
  rw[e2,h1,ih fun t ht=>h t (by simp[ht]),Zd];lia
theorem sK{ts:List Tri}(h:∀t∈ts,0<t2 t):(ts.length:Int)<=aO cr ts:=by
 induction ts with
 |nil=>exact Int.le_refl _
 |cons x xs ih=>
  have e2:aO cr (x::xs)=tri cr x+aO cr xs:=rfl;have h1:tri cr x=t2 x:=jy x;have h2:=h x (by simp)
  have h3:=ih fun t ht=>h t (by simp[ht])
  rw[e2,h1,Zd];lia
noncomputable def bn(cs:List Pt):List Pt:=if 0<area cs then cs else cs.reverse
noncomputable def dJ(cs:List Pt):Int:=if area cs<0 then-area cs else area cs
end FF
namespace FD
open PySem L2 FF
noncomputable abbrev oQ:Stmt:=top 25
noncomputable def rL(cs:List Pt)(us:List Tri):Prop:=(∀t∈us,t2 t=1/\aN (t3 t))/\(us.length:Int)=dJ cs/\∀F,c6 F->aO F us=cyc F (bn cs)
noncomputable def m_(cW:Addr):Sp:=fun vs H Q E=>∃l rf cs ts,vs=[.ref l]/\PLs H l rf cs/\aN cs/\aZ cs/\area cs≠0/\bF (bn cs) ts/\fh (bn cs)/\(60<dJ cs->∀H',av H H'->E (.ref cW) none H')/\
 (dJ cs<=60->∀r as us H',av H H'->H r=none->H' r=some (.lst (as.map V.ref))->TAs H' as us->rL cs us->Q (.ref r) H')
theorem Bp{t:Tri}(h:aN (t3 t)):∀p∈t3 t,Co p:=fun p hp=>by
 obtain⟨k,hk,e⟩:=Yv hp
 have:=h k hk
 rwa [show at' (t3 t) k=p by rw[<-e,bN,Z2,Z3 hk];rfl]at this
theorem lf{cs:List Pt}(h:∀p∈cs,Co p):aN cs:=fun i hi=>h _ (cO hi)
theorem jQ{cs:List Pt}(h:aN cs){p:Pt}(hp:p∈cs):Co p:=by
 obtain⟨k,hk,e⟩:=Yv hp
 have:=h k hk
 rwa [show at' cs k=p by rw[<-e,bN,Z2,Z3 hk];rfl]at this
theorem yZ{t:Tri}{p:Pt}(h:2<=t2 t)(w:Wp t p)(c:aN (t3 t)):Co p:=by
 have k:=oW h w;exact yK (B:=10^40) (by unfold t2 at h;lia) k (c30 c) (c31 c) (c32 c)
theorem viaA{G:Prop}{J Pm:Addr->Hp->Prop}(main:(∀x m,Pm x m->J x m)->G)(rest:∀x m,Pm x m->J x m):G:=main rest
theorem wy(cs:List Pt):area cs.reverse=- area cs:=g_ cs
section
variable{P:Zy}{w:Zm}{K:Z1}{mg:Str->Option Value}{base:ZE}{f:Addr}{fd:ZD}{cE cW:Addr}{tk:Tok}
theorem j_:aD ["corners","waiting","least","triangle"] ["corners"] (au oQ):=.mk'
theorem pX(F:Fun K "least_triangles" "least_triangles" oQ f fd)(cC:Cal P w K mg base 5 "corner_triangles" ["corners"] rO)(cA:Cal P w K mg base 7 "double_area" ["corners"] u9)(cD:Cal P w K mg base 2 "doubled_area" ["triangle"] jG)(cG:Cal P w K mg base 7 "goes_left" ["corners"] vZ)(cP:Cal P w K mg base 3 "point_within" ["triangle"] zi)(cS:Cal P w K mg base 3 "split_at" ["triangle","point"] sO)
  (C5:mg "len" = none)(C1:mg "list" = none)(C0:mg "reversed" = none)(D0:mg "WIDEST" = some (.int 60 tk))(m_W:mg "TooWide" = some (.ref cW))(O:uw base cW (.ref cE::qe) qe "ValueError.__new__"):FnOk P w K mg base (CX1 P w base) 8 f fd ["corners"] (m_ cW):=by
 refine F.okX j_ (by rintro _ _ _ _⟨_,_,_,_,rfl,_⟩;rfl) fun C6 A outer s H vs Q E hr h=>?_
 obtain⟨l,rf,cs,ts,rfl,hp,co,fe,a0,hc,dist,qE,q⟩:=h;refine⟨_,aq (bc (aV ia (aB cA hr (pa1 (pv 0))) (gT (v:=.int 60) rfl D0 ⟨_,rfl⟩)) (ak (tM rfl rfl m_W O q9 (pa1 mv))) aQ)
  (PSs.nox (aq (ay (i:=1) j_.nd (aB cC hr (pa1 (qy (bG (aB cG hr (pa1 (pv 0)))) (pv 0) (j5 (fN rfl rfl C1 rfl C0 (pa1 (pv 0))) jw)))))
  (aq (ay (i:=2) j_.nd (cN ie))
  (aq (k9 ZU (aV ia (aE aM rfl C5 ZF (pa1 (pv 1))) ad) (aq (ay (i:=3) j_.nd (vM Yr Wy Wx wW (pv 1)))
   (ak (bc (aV dM (aB cD hr (pa1 (pv 3))) ad) (ak (eX (ko Yr Xv Xu iB (pv 2) (pa1 (pv 3))))) (ak (eX (ko Yr PySem.F.slot_list_extend PySem.F.type_list_extend wI (pv 1) (pa1 (aB cS hr (pa2 (pv 3) (aB cP hr (pa1 (pv 3)))))))))))))
  (ak (aC (pv 2))))))),?_⟩
 refine⟨_,rfl,l,rf,cs,rfl,hp,co,fe,fun H1 s1=>⟨_,_,rfl,rfl,_,rfl,?_⟩⟩;have eA:(if area cs<0 then-area cs else area cs)=dJ cs:=rfl
 rw[eA];refine a9 (fun c=>⟨by decide,qE (Zi c) _ s1⟩) (fun c=>⟨[_,_,_,_],rfl,?_⟩)
 have a60:dJ cs<=60:=by
  have:¬((60:Int)<dJ cs):=fun z=>c (Zo z)
  lia
 have q:=q a60;clear qE;have hp1:=hp.mono s1;have n12:=fe.hi;have n3:=fe.lo;have coL:aN (bn cs):=by
  unfold bn
  split
  ·exact co
  ·exact lf fun p hp=>jQ co (Wn.mp hp)
 have nL:(bn cs).length=cs.length:=by
  unfold bn
  split
  ·rfl
  ·exact ZA
 have arL:area (bn cs)=dJ cs:=by
  unfold bn dJ
  split
  ·split<;>lia
  ·rw[wy];split<;>lia
 have sumL:∀F,c6 F->aO F ts=cyc F (bn cs):=fun F A=>(hc.sum A.anti dist).symm;have pos:=hc.pos;have memT:∀t∈ts,aN (t3 t):=fun t ht=>by
  obtain⟨m1,m2,m3⟩:=hc.mem t ht;exact co3 (jQ coL m1) (jQ coL m2) (jQ coL m3)
 refine⟨_,rfl,l,rf,cs,rfl,hp1,co,fe,fun H2 s2=>⟨_,rfl,?_⟩⟩;have hp2:=hp1.mono s2;apply viaA (Pm:=fun r3 H3=>av H2 H3/\∃rf3,PLs H3 r3 rf3 (bn cs))
 ·intro rest;refine a9 (fun c=>?_) (fun c=>?_);rotate_left
  ·refine⟨l,rf,cs,rfl,hp2,fun l3 rg3 H3 s3 p3=>rest l3 H3 ⟨s3,rg3,?_⟩⟩;unfold bn;rw[if_neg (fun z=>c (Zo z))];exact p3
  ·refine⟨_,rfl,rest l H2 ⟨av.refl _,rf,?_⟩⟩;unfold bn;rw[if_pos (Zi c)];exact hp2
 rintro r3 H3 ⟨s3,rf3,hp3⟩;have sH3:=s1.trans (s2.trans s3);refine⟨r3,rf3,bn cs,ts,rfl,hp3,coL,by lia,hc,fun r as H4 s4 nr hr4 hT4 neR lA=>⟨[_,_,_,_],rfl,?_⟩⟩
 refine⟨a_ (show 0<=1000 by decide),fun le hle=>⟨[_,_,_,_],rfl,?_⟩⟩
 have s5:=ao hle (.lst []);have hl5:(upd H4 le (.lst [])) le=some (.lst (([]:List Addr).map V.ref)):=ah;have hr5:=s5 _ _ hr4;have hT5:=hT4.mono s5;have nrl:r≠le:=fun e=>by rw[<-e,hr4]at hle;cases hle
 have nal:∀a∈as,a≠le:=fun a ha e=>by
  obtain⟨xs,h⟩:=hT4.there a ha;rw[e,hle]at h;cases h
 have n0r:H r=none:=dG sH3 nr;have n0l:H le=none:=dG (sH3.trans s4) hle;have sH5:=sH3.trans (s4.trans s5);generalize upd H4 le (.lst [])=H5 at *
 clear hle hr4 hT4 s4 s5 nr hp1 hp2 hp3 s1 s2 s3 sH3;refine⟨fun m σ H'=>∃as ts1 bs us x3,m=(mu ts1).toNat/\σ=[some (.ref l),some (.ref r),some (.ref le),x3]/\av H H'/\H' r=some (.lst (as.map V.ref))/\TAs H' as ts1/\(∀a∈as,a≠r/\a≠le)/\H' le=some (.lst (bs.map V.ref))/\TAs H' bs us/\(∀a∈bs,a≠r/\a≠le)/\
   (∀t∈ts1,0<t2 t/\aN (t3 t))/\(∀t∈us,t2 t=1/\aN (t3 t))/\∀F,c6 F->aO F us+aO F ts1=cyc F (bn cs),
  ⟨_,as,ts,[],[],none,rfl,rfl,sH5,hr5,hT5,(fun a ha=>⟨neR a ha,nal a ha⟩),hl5,.nil,(fun a ha=>by cases ha),(fun t ht=>⟨pos t ht,memT t ht⟩),(fun t ht=>by cases ht),fun F A=>by rw[<-sumL F A];show 0+_=_;lia⟩,?_⟩
 clear hr5 hT5 neR nal hl5 sH5 lA;rintro m σ H6 ⟨as,ts1,bs,us,x3,rfl,rfl,s6,hr6,hT6,neA,hl6,hU6,neB,ok1,one,sums⟩;have bnd:aO cr us+aO cr ts1=dJ cs:=by rw[sums cr BJ,jU,arL]
 have b1:=yL fun t ht=>(one t ht).1;have b2:=sK fun t ht=>(ok1 t ht).1;have lA:=hT6.len;have lB:=hU6.len;refine⟨_,rfl,r,_,rfl,.inl (SqL.of hr6),?_⟩;rw[Z7];refine⟨_,_,rfl,rfl,_,rfl,?_⟩;refine a9 (fun c=>?_) (fun c=>⟨[_,_,_,_],rfl,?_⟩)
 ·have c0:0<as.length:=by have:=Zi c;lia
  refine⟨_,fun σ' H' z=>z,?_⟩;obtain⟨as',a,ts',t,rfl,rfl,DB,hA⟩:=hT6.last c0;have e0:((as'++[a]).map V.ref)=as'.map V.ref++[V.ref a]:=by rw[ZL];rfl
  have nea:=neA a (by simp)
  have neA':∀b∈as',b≠r/\b≠le:=fun b hb=>neA b (by simp[hb])
  refine⟨_,rfl,.inl ⟨rfl,_,SqL.of hr6⟩,r,_,.ref a,rfl,rfl,hr6,by rw[e0];simp,⟨[_,_,_,_],rfl,?_⟩⟩
  have hr7:(L2.upd H6 r (.lst ((as'++[a]).map V.ref).dropLast)) r=some (.lst (as'.map V.ref)):=by rw[ah,e0,List.dropLast_concat]
  have hT7:TAs (L2.upd H6 r (.lst ((as'++[a]).map V.ref).dropLast)) as' ts':=DB.upd (fun b hb=>(neA' b hb).1) hr6;have hA7:fB (L2.upd H6 r (.lst ((as'++[a]).map V.ref).dropLast)) a t:=hA.upd nea.1 hr6;have hl7:(L2.upd H6 r (.lst ((as'++[a]).map V.ref).dropLast)) le=some (.lst (bs.map V.ref)):=by rw[aG nrl.symm];exact hl6
  have hU7:TAs (L2.upd H6 r (.lst ((as'++[a]).map V.ref).dropLast)) bs us:=hU6.upd (fun b hb=>(neB b hb).1) hr6;have s7:av H (L2.upd H6 r (.lst ((as'++[a]).map V.ref).dropLast)):=FD.av.updN s6 n0r;generalize L2.upd H6 r (.lst ((as'++[a]).map V.ref).dropLast)=H7 at *
  clear hT6 hA DB hr6 hl6 hU6 s6;obtain⟨tp,tco⟩:=ok1 t (by simp)
  have ok':∀t∈ts',0<t2 t/\aN (t3 t):=fun u hu=>ok1 u (by simp[hu])
  obtain⟨rg,hA7⟩:=hA7;have m0:=nv fun u hu=>(ok' u hu).1;have m1:mu (ts'++[t])=mu ts'+(2*t2 t-1):=by rw[ve];show _+(2*t2 t-1+0)=_;lia
  have st:∀F,aO F (ts'++[t])=aO F ts'+tri F t:=fun F=>by rw[kJ];show _+(tri F t+0)=_;lia
  have tt:tri cr t=t2 t:=jy t;have b3:=sK fun u hu=>(ok' u hu).1;have t60:t2 t<=60:=by
   have:=st cr
   lia
  have lens:as'.length=ts'.length/\bs.length=us.length:=⟨by rw[Z5,Z5]at lA;simpa using lA,lB⟩
  have l60:as'.length+bs.length<=60:=by
   have:=st cr
   lia
  refine⟨_,rfl,a,rg,t,rfl,hA7,tco,rfl,_,rfl,?_⟩;have ed:decide (V.int (t2 t)=V.int 1)=decide (t2 t=1):=by rw[ZP];simp
  rw[ed];refine a9 (fun c1=>?_) (fun c1=>?_)
  ·have t1:t2 t=1:=Zi c1;refine⟨_,rfl,.inl ⟨rfl,_,SqL.of hl7⟩,_,rfl,le,_,_,rfl,rfl,hl7,by rw[Z7];exact Nat.lt_of_lt_of_le (show bs.length<1000 by lia) (a_ (Nat.le_refl 1000)),?_⟩
   refine⟨_,?_,as',ts',bs++[a],us++[t],_,rfl,rfl,FD.av.updN s7 n0l,by rw[aG nrl];exact hr7,hT7.upd (fun b hb=>(neA' b hb).2) hl7,neA',by rw[ah,ZL];rfl,(hU7.upd (fun b hb=>(neB b hb).2) hl7).app (.cons (fB.upd ⟨rg,hA7⟩ nea.2 hl7) .nil),(fun b hb=>?_),ok',(fun u hu=>?_),fun F A=>?_⟩
   ·rw[m1,t1];lia
   ·rcases ZH.mp hb with z|z
    ·exact neB b z
    ·rw[Zg.mp z];exact nea
   ·rcases ZH.mp hu with z|z
    ·exact one u z
    ·rw[Zg.mp z];exact⟨t1,tco⟩
   ·have e:=sums F A;rw[st F]at e;rw[kJ];show aO F us+(tri F t+0)+aO F ts'=_;lia
  ·have d2:2<=t2 t:=by
    have:t2 t≠1:=fun z=>c1 (Zo z)
    lia
   refine⟨_,rfl,.inl ⟨rfl,_,SqL.of hr7⟩,_,rfl,_,rfl,a,rg,t,rfl,hA7,tco,d2,by lia,fun p pt H8 s8 wp hpt=>?_⟩
   refine⟨a,rg,t,pt,p,rfl,hA7.mono s8,tco,hpt,yZ d2 wp tco,fun rs ps H9 s9 nrs hrs hP9 fr=>?_⟩;have s89:=s8.trans s9;have hr9:=s89 _ _ hr7;have pl:=ut (t:=t) (p:=p);have pn:=hP9.len;have neP:∀b∈ps,b≠r/\b≠le:=fun b hb=>⟨(fun e=>by have:=fr b hb;rw[e,s8 _ _ hr7]at this;cases this),(fun e=>by have:=fr b hb;rw[e,s8 _ _ hl7]at this;cases this)⟩
   refine⟨r,rs,_,_,rfl,rfl,hr9,hrs,by rw[Z7,Z7];exact a_ (show as'.length+ps.length<=1000 by lia),?_⟩
   have pm:=wu d2 wp;have pp:=nv (ts:=dk t p) lU;refine⟨_,?_,as'++ps,ts'++dk t p,bs,us,_,rfl,rfl,FD.av.updN (s7.trans s89) n0r,by rw[ah,ZL],((hT7.mono s89).app hP9).upd (fun b hb=>?_) hr9,(fun b hb=>?_),by rw[aG nrl.symm];exact s89 _ _ hl7,(hU7.mono s89).upd (fun b hb=>(neB b hb).1) hr9,neB,(fun u hu=>?_),one,fun F A=>?_⟩
   ·rw[m1,ve];lia
   ·rcases ZH.mp hb with z|z
    ·exact (neA' b z).1
    ·exact (neP b z).1
   ·rcases ZH.mp hb with z|z
    ·exact neA' b z
    ·exact neP b z
   ·rcases ZH.mp hu with z|z
    ·exact ok' u z
    ·refine⟨lU u z,lf fun x hx=>?_⟩;rcases ud u z x hx with e|e
     ·rw[e];exact yZ d2 wp tco
     ·exact Bp tco x e
   ·have e:=sums F A;rw[st F]at e;rw[kJ,uS A d2 wp];lia
 ·have c0:as.length=0:=by
   have:¬((0:Int)<(as.length:Int)):=fun z=>c (Zo z)
   lia
  have e1:ts1=[]:=List.length_eq_zero_iff.mp (by lia)
  subst e1;refine⟨_,rfl,q le bs us H6 s6 n0l hl6 hU6 ⟨one,?_,fun F A=>?_⟩⟩
  ·have:aO cr []=0:=rfl
   lia
  ·have:=sums F A
   have z:aO F []=0:=rfl;lia
end
end FD
end
section
namespace L2
open PySem PySem.W PySem.Spec PyProof.Rows
section
variable{P:Zy}{w:Zm}{K:Z1}{mg:Str->Option Value}{base:ZE}{N:List Str}{qual:Str}{scope:XT}{f:Addr}{cd:Value}{A:ZT}{outer:List Env}{s₀:Shared}{H₀:Hp}{E:XK}
end
section
variable{P:Zy}{w:Zm}{K:Z1}{mg:Str->Option Value}{base:ZE}{k:Nat}{f:Addr}{fd:ZD}{ps:List Str}{sp En:Sp}
end
end L2
end
section
namespace FD
open PySem L2 FF
noncomputable abbrev uL:Stmt:=top 52
noncomputable def wk:Sp:=fun vs H Q _=>∃l rf cs ts,vs=[.ref l]/\PLs H l rf cs/\aN cs/\aZ cs/\area cs≠0/\bF (bn cs) ts/\fh (bn cs)/\60<dJ cs/\∀H',av H H'->Q (.bl true) H'
section
variable{P:Zy}{w:Zm}{K:Z1}{mg:Str->Option Value}{base:ZE}{f:Addr}{fd:ZD}{cE cF cT cW:Addr}
theorem me:aD ["corners","name","e"] ["corners"] (au uL):=.mk'
structure yI(K:Z1)(mg:Str->Option Value)(cE cF cT cW:Addr):Prop where
 mE:mg "FenceError" = some (.ref cE)
 mF:mg "NoFence" = some (.ref cF)
 mT:mg "NoTurning" = some (.ref cT)
 mW:mg "TooWide" = some (.ref cW)
theorem AA(F:Fun K "_law_refused" "_law_refused" uL f fd)(cL0:qG P w K mg base 8 "least_triangles" ["corners"] (m_ cW))(m:yI K mg cE cF cT cW)(m_V:mg "ValueError" = none)(B':mg "isinstance" = none)(Z:fk K cW)
  (x1:UT K (.ref cW) (.ref cE)=some true)(k1:Y7 K (.ref cW) (.type "ValueError")=some true)(k2:Y7 K (.ref cW) (.ref cW)=some true)(k3:VE K (.ref cW) [.ref cF,.ref cT]=some false):FnOk P w K mg base CX0 9 f fd ["corners"] wk:=by
 refine F.ok me (by rintro _ _ _ _⟨l,rf,cs,ts,rfl,_⟩;rfl) fun C6 A outer s H vs Q E hr h=>?_
 obtain⟨l,rf,cs,ts,rfl,hP,co,fe,a0,hc,dist,hI,q⟩:=h;obtain⟨ft,fdt,FT,bt,kt,mt⟩:=cL0.ex;refine⟨_,aq (ay (i:=1) me.nd mv)
  (aq (uB (fun _ _ z=>z) rfl rfl rfl rfl FT hr rfl mt kt bt (pa1 (pv 0)) rfl m.mE me.nd (i:=2) rfl (ZQ rfl) rfl rfl
   (fun ea=>ak (bc (PW.pt (jt (bG (aE (l6 (cv:=.ty "ValueError") Z k1 (fun u r=>r)) rfl B' ZM (pa2 (pv 2) (gr (v:=.ty "ValueError") (u:=.type "ValueError") rfl m_V (by kernel_rfl) rfl))))
    (jt (bG (aE (l6 (cv:=.ref cW) Z k2 (fun u r=>r)) rfl B' ZM (pa2 (pv 2) (gT (v:=.ref cW) rfl m.mW rfl))))
    (j7 (eJ (bG (aE (rd Z k3) rfl B' ZM (pa2 (pv 2) (b7 (pa2 (gT (v:=.ref cF) rfl m.mF rfl) (gT (v:=.ref cT) rfl m.mT rfl)))))))))))
    (ak (ay (i:=1) me.nd mv)) aQ)))
  (ak (aC (gP dM (pv 1) mv)))),?_⟩
 refine⟨[_,_,_],rfl,?_⟩;refine⟨_,rfl,l,rf,cs,ts,rfl,hP,co,fe,a0,hc,dist,fun _ H1 s1=>⟨x1,fun ea E1=>?_⟩,fun z=>by omega⟩
 have s2:=s1.trans (ao E1 (jO ea (.ref cW)));refine⟨_,rfl,ea,rfl,ah,_,rfl,dt ⟨_,rfl,ea,rfl,ah,_,rfl,dt ⟨_,rfl,?_⟩⟩⟩;refine⟨a_ (show 2<=1000 by decide),fun p hp=>?_⟩
 have s3:=s2.trans (ao hp (.tup [.ref cF,.ref cT]));refine⟨ea,p,rfl,ao hp _ _ _ ah,ah,_,rfl,dt ?_⟩;refine⟨_,rfl,_,rfl,rfl,?_⟩;rw[Zo rfl];exact q _ s3
end
theorem _root_.L2.FnOk.calm{P:Zy}{w:Zm}{K:Z1}{mg:Str->Option Value}{base:ZE}{k:Nat}{f:Addr}{fd:ZD}{ps:List Str}{sp En:Sp}(F:FnOk P w K mg base (CX1 P w base) k f fd ps sp)
  (h:∀vs H Q E,En vs H Q E->sp vs H Q fun _ _ _=>False):FnOk P w K mg base CX0 k f fd ps En:=
 ⟨fun vs H Q E q=>F.len _ _ _ _ (h _ _ _ _ q),fun A outer s H args us vs Q E hr he hb hv hs=>XM (F.run A outer s H args us vs Q _ hr he hb hv (h _ _ _ _ hs)) fun r s' z=>by
  cases r with
  |ok f=>cases f<;>exact z
  |error e=>
   obtain⟨_,_,_,_,_,_,_,_,_,_,_,_,z⟩:=z;exact z⟩
noncomputable def qa:Sp:=fun vs H Q _=>∃l rf cs ts,vs=[.ref l]/\PLs H l rf cs/\aN cs/\aZ cs/\area cs≠0/\bF (bn cs) ts/\fh (bn cs)/\dJ cs<=60/\
 ∀r as us H',av H H'->H r=none->H' r=some (.lst (as.map V.ref))->TAs H' as us->rL cs us->Q (.ref r) H'
theorem Cj{c:Addr}(vs:List V)(H:Hp)(Q:VK)(E:XK)(h:qa vs H Q E):m_ c vs H Q fun _ _ _=>False:=by
 obtain⟨l,rf,cs,ts,rfl,hP,co,fe,a0,hc,dist,hI,q⟩:=h;exact⟨l,rf,cs,ts,rfl,hP,co,fe,a0,hc,dist,fun z=>by omega,fun _=>q⟩
end FD
end
section
namespace FD
open PySem L2 FF
noncomputable abbrev nh:Stmt:=top 47
noncomputable def o6:Sp:=fun vs H Q _=>∃r d rf rg cs,vs=[.ref r,.ref d]/\PLs H r rf cs/\PLs H d rg cs/\cs.length<=400/\Q (.bl true) H
section
variable{P:Zy}{w:Zm}{K:Z1}{mg:Str->Option Value}{base:ZE}{f:Addr}{fd:ZD}
theorem kit_tuple:Y7 K (.type "tuple") (.type "tuple")=some true:=by unfold Y7;exact if_pos (by decide)
theorem kS:Y7 K (.type "list") (.type "list")=some true:=by unfold Y7;exact if_pos (by decide)
theorem qB:aD ["found","due","point"] ["found","due"] (au nh):=.mk'
theorem tY(F:Fun K "_law_points_are" "_law_points_are" nh f fd)(C7:Cal P w K mg base 1 "_law_whole" ["found"] rY)(B':mg "isinstance" = none)(C1:mg "list" = none)(C5:mg "len" = none)(Da:mg "tuple" = none):FnOk P w K mg base CX0 2 f fd ["found","due"] o6:=by
 refine F.ok qB (by rintro _ _ _ _⟨_,_,_,_,_,rfl,_⟩;rfl) fun C6 A outer s H vs Q E hr h=>?_
 obtain⟨r,d,rf,rg,cs,rfl,hr',hd,n4,q⟩:=h;have hu:=hr.un;have hu2:A.units+3+5<cLine:=by have:A.units+3+16*1+200<cLine:=hu;lia
 refine⟨_,aq (bc (PW.pt (e_ (eJ (bG (aE (d_ (T := "list")) rfl B' ZM (pa2 (pv 0) (gr (v:=.ty "list") rfl C1 Yi rfl))))) (fL (aV j6 (aE aM rfl C5 ZF (pa1 (pv 0))) (aE aM rfl C5 ZF (pa1 (pv 1))))))) (ak (aC cw)) aQ)
  (aq (dF ZU rfl (b9 (pv 0)) (aI (i:=2) qB.nd rfl (ZQ rfl)) (ak (bc (PW.pt (e_ (eJ (bG (aE (d_ (T := "tuple")) rfl B' ZM (pa2 (pv 2) (gr (v:=.ty "tuple") rfl Da Tc rfl))))) (e_ (aV j6 (aE aM rfl C5 ZF (pa1 (pv 2))) ad) (e_ (eJ (bG (aB C7 hr (pa1 (am aw (pv 2) ad))))) (fL (eJ (bG (aB C7 hr (pa1 (am aw (pv 2) ad)))))))))) (ak (aC cw)) aQ)))
  (ak (aC (gP (pQ hu2) (pv 0) (pv 1))))),?_⟩
 refine⟨_,rfl,_,_,true,rfl,.lst hr'.1,kS,_,rfl,eH ?_⟩;refine⟨_,rfl,r,_,rfl,.inl (SqL.of hr'.1),_,rfl,d,_,rfl,.inl (SqL.of hd.1),rfl,_,rfl,?_⟩;refine a9 (fun c=>absurd c (by rw[ai,ai];simp)) (fun _=>⟨[_,_,_],rfl,?_⟩)
 refine⟨_,rfl,r,rfl,⟨_,SqL.of hr'.1⟩,?_⟩;refine i3 (xs:=aj cs.length rf) (fun (i:Nat) (σ:St) (H':Hp)=>(∃x2,σ=[some (.ref r),some (.ref d),x2])/\H'=H) ⟨⟨none,rfl⟩,rfl⟩ (fun i σ H' _ hI=>by rw[hI.2];exact SqL.of hr'.1) ?_ ?_
 ·rintro i x σ H' hx ⟨⟨x2,rfl⟩,rfl⟩;obtain⟨hi,rfl⟩:=bU hx;have hT:=hr'.2 i hi;refine⟨_,rfl,_,_,true,rfl,.tup hT,kit_tuple,_,rfl,eH ?_⟩;refine⟨_,rfl,_,_,rfl,.inr (SqT.of hT),rfl,_,rfl,?_⟩;refine a9 (fun c=>absurd c (by simp)) (fun _=>?_)
  refine⟨_,rfl,_,_,_,_,rfl,rfl,SqT.of hT,at0,_,rfl,_,rfl,eH ?_⟩;refine⟨_,rfl,_,_,_,_,rfl,rfl,SqT.of hT,at1,_,rfl,_,rfl,eH ?_⟩;exact⟨⟨_,rfl⟩,rfl⟩
 ·rintro σ H' ⟨⟨x2,rfl⟩,rfl⟩;refine⟨[_,_,_],rfl,?_⟩;refine⟨_,rfl,_,rfl,r,d,_,_,rfl,rfl,SqL.of hr'.1,SqL.of hd.1,.inr ⟨by rw[ai,ai],fun _=>true,fun j x y hx hy=>?_,?_⟩⟩
  ·obtain⟨hj,rfl⟩:=bU hx;obtain⟨_,rfl⟩:=bU hy
   have:=Cmp.pt (SqT.of (hr'.2 j hj)) (SqT.of (hd.2 j hj)) (K:=K)
   rwa [Zo ⟨rfl,rfl⟩]at this
  ·have e:((Z4 (aj cs.length rf).length).all fun _=>true)=true:=by simp
   show Q (.bl ((Z4 (aj cs.length rf).length).all fun _=>true)) H';rw[e];exact q
end
end FD
end
section
namespace FF
structure Bs(cs:List Pt):Prop where
 g:Good cs
 s:Sn2 cs
 c:fW cs
structure B0(cs:List Pt):Prop where
 b:Bs cs
 n:∀p∈cs,Nr p
 l:∀T:Tn,T.det≠0->fW (cs.map T.led)
theorem uH(ns:List Int)(f:Nat):B0 (bK ns f):=⟨⟨qS ns f,qX ns f,oB ns f⟩,ui ns f,fun _ h=>jX ns f h⟩
theorem y7(a b c:Pt):area [a,b,c]=turn a b c:=by
 rw[<-jU];show cr a b+(cr b c+cr c a)=turn a b c;unfold cr turn;grind
theorem nB(a b c:Pt):fW [a,b,c]:=by
 refine⟨fun h=>i_ ?_,fun h=>i_ ?_⟩
 ·rw[y7]at h;exact Zo h
 ·rw[y7]at h;show decide (0<turn c b a)=true;have e:turn c b a=- turn a b c:=by unfold turn;grind
  rw[e];exact Zo (by lia)
noncomputable def dq:List Pt:=[(5,12),(1,61),(60,1),(3,20),(61,1),(1,1),(4,15),(2,30)]
theorem xD:(dq.all fun p=>jT [(0,0),(p.1,0),(0,p.2)]&&decide (area [(0,0),(p.1,0),(0,p.2)]≠0)&&decide (0<p.1/\p.1<=61/\0<p.2/\p.2<=61))=true:=by decide
theorem AJ{p:Pt}(h:p∈dq):B0 [(0,0),(p.1,0),(0,p.2)]:=by
 have k:=Y5.mp xD p h;simp only[Zc,decide_eq_true_eq]at k;obtain⟨⟨k1,k2⟩,k3,k4,k5,k6⟩:=k;refine⟨⟨⟨jg k1,k2⟩,yB k3 k5,nB _ _ _⟩,fun q hq=>?_,fun T _=>nB _ _ _⟩;simp only[Zx,Zr,or_false]at hq;unfold Nr;rcases hq with rfl|rfl|rfl<;>dsimp only<;>lia
theorem B0.led{cs:List Pt}(B:B0 cs){T:Tn}(h:T.det=1\/T.det=-1):Bs (cs.map T.led):=by
 have h0:T.det≠0:=by lia
 exact⟨B.b.g.led h0,B.b.s.led h,B.l T h0⟩
end FF
namespace FD
open PySem L2 FF
noncomputable abbrev iF:Stmt:=top 53
noncomputable def oG(K:Z1):Sp:=fun vs H Q _=>∃(a:Addr) (ns:List Int),vs=[.ref a]/\SqL K H a (ns.map V.int)/\ns.length<=63/\∀H',Q (.bl true) H'
theorem uM{α:Type}{G:Prop}{J:L2.St->Hp->Prop}{Pm:α->Hp->Prop}(mk:α->L2.St)(main:(∀a c,Pm a c->J (mk a) c)->G)(rest:∀a c,Pm a c->J (mk a) c):G:=main rest
theorem yS{cs:List Pt}(h:∀p∈cs,Co p):aN cs:=fun i hi=>h _ (cO hi)
theorem vD{cs:List Pt}(G:Good cs)(C:fW cs):∃ts,bF (bn cs) ts:=by
 have a0:=G.ar;unfold bn
 split
 ·rename_i c;exact C.1 c
 ·exact C.2 (by lia)
theorem lK{cs:List Pt}(G:Good cs):aZ (bn cs):=by
 unfold bn
 split
 ·exact G.fe
 ·exact G.rev.fe
theorem xN{cs:List Pt}(S:Sn2 cs):Sng (bn cs):=by
 unfold bn
 split
 ·exact S.l
 ·exact S.r
theorem wP{cs:List Pt}(G:Good cs):fh (bn cs):=(jz.mp (lK G)).2.2.1
noncomputable def yg:Expr->Option Pt
 | .Tuple [.Constant (.int i) _ _,.Constant (.int j) _ _] _ _=>some (i,j)
 |_=>none
noncomputable def l9:List Expr->Option (List Pt)
 | []=>some []
 |e::es=>match yg e,l9 es with
  |some p,some ps=>some (p::ps)
  |_,_=>none
noncomputable def oO(ps:List Pt):TA:=fun _ H Q=>∀rg H',av H H'->(∀i,i<ps.length->PtA H' (rg i) (at' ps i))->Q (aj ps.length rg) H'
theorem xa{e:Expr}{p:Pt}(h:yg e=some p):∃k1 k2 x1 p1 p2 pos,e=.Tuple [.Constant (.int p.1) k1 p1,.Constant (.int p.2) k2 p2] x1 pos:=by
 unfold yg at h
 split at h
 ·cases h;exact⟨_,_,_,_,_,_,rfl⟩
 ·cases h
theorem wA{n:Nat}{t:Addr}{rg:Nat->Addr}:aj (n+1) (fun k=>if k=0 then t else rg (k-1))=.ref t::aj n rg:=by
 unfold aj;rw[Vs,ZI,Yl]
 rfl
theorem qC{X:Cx}:∀{es:List Expr} {ps:List Pt},l9 es=some ps->PA X es (oO ps)
 | [],ps,h=>by
  cases h;exact fun pos aa s σ H Q I hq=>ie pos aa s σ H Q I (hq (fun _=>0) H (av.refl _) (fun i hi=>absurd hi (Nat.not_lt_zero _)))
 |e::es,ps,h=>by
  unfold l9 at h
  split at h
  ·rename_i p ps' h1 h2;cases h;obtain⟨k1,k2,x1,p1,p2,pos,rfl⟩:=xa h1;refine fun pos aa s σ H Q I hq=>dD (fO (pa2 ad ad)) (qC h2) rfl pos aa s σ H Q I ?_;refine⟨_,_,rfl,fun t H1 s1 w1 rg H2 s2 w2=>?_⟩
   have:=hq (fun k=>if k=0 then t else rg (k-1)) H2 (s1.trans s2) fun i hi=>?_
   ·rw[Zd,wA]at this;exact this
   ·cases i with
    |zero=>exact s2 _ _ w1
    |succ i=>exact w2 i (Nat.lt_of_succ_lt_succ hi)
  ·cases h
noncomputable def mY:List Stmt->Option (Str×Str×List Expr×Expr×List Expr)
 | [.Assign [.Name a _] (.Subscript (.List es _) be _) _,.Assign [.Name b _] (.List E8 _) _]=>some (a,b,es,be,E8)
 |_=>none
theorem yD{X:Cx}{ss:List Stmt}{a b:Str}{es E8:List Expr}{be:Expr}{tb:TE}{t2:TA}(h:mY ss=some (a,b,es,be,E8))(hN:X.N.Nodup)(i2:X.N[2]?=some a)(l2:Loc X.env.scope a)(f2:X.fn a=true\/X.env.scope.names.lookup a=some .local)(i1:X.N[1]?=some b)(l1:Loc X.env.scope b)(f1:X.fn b=true\/X.env.scope.names.lookup b=some .local)
  (E4:l9 es=some dq)(hb:PE X be tb)(pb:kd be)(h2:PA X E8 t2):PSs X ss (oF (gc (tOp (pJ X.K) (kQ (oO dq)) tb) (bW 2)) (gc (kQ t2) (bW 1))):=by
 unfold mY at h
 split at h
 ·cases h;exact aq (qq (i:=2) hN i2 l2 (y8 aF (cN (qC E4)) hb pb) rfl f2) (ak (qq (i:=1) hN i1 l1 (cN h2) rfl f1))
 ·cases h
@[irreducible] noncomputable def lz:List Stmt:=match cV iF with
 |_::.If _ a _ _::_=>a
 |_=>[]
@[irreducible] noncomputable def lgL:List Expr:=match cV iF with
 |_::.If _ (.Assign _ (.Subscript (.List es _) _ _) _::_) _ _::_=>es
 |_=>[]
noncomputable def lgI:Expr:=match cV iF with
 |_::.If _ (.Assign _ (.Subscript _ b _) _::_) _ _::_=>b
 |_=>.Constant .none 0 ⟨0,0,0,0⟩
noncomputable def lg2:List Expr:=match cV iF with
 |_::.If _ (_::.Assign _ (.List es _) _::_) _ _::_=>es
 |_=>[]
theorem Cm:mY lz=some (("legs" : Str),("corners" : Str),lgL,lgI,lg2):=by kernel_rfl
theorem Cn:l9 lgL=some dq:=by kernel_rfl
theorem Ct{X:Cx}{l:List Stmt}{tb:TE}{t2:TA}(e:l=lz)(hN:X.N.Nodup)(i2:X.N[2]?=some ("legs" : Str))(l2:Loc X.env.scope "legs")(f2:X.fn "legs" = true\/X.env.scope.names.lookup ("legs" : Str)=some .local)(i1:X.N[1]?=some ("corners" : Str))(l1:Loc X.env.scope "corners")(f1:X.fn "corners" = true\/X.env.scope.names.lookup ("corners" : Str)=some .local)
  (hb:PE X lgI tb)(pb:kd lgI)(h2:PA X lg2 t2):PSs X l (oF (gc (tOp (pJ X.K) (kQ (oO dq)) tb) (bW 2)) (gc (kQ t2) (bW 1))):=by
 subst e;exact @yD X lz "legs" "corners" lgL lg2 lgI tb t2 Cm hN i2 l2 f2 i1 l1 f1 Cn hb pb h2
theorem lm:(["point","turning"]:List Str).Nodup:=by decide +kernel
theorem o7(ns:List Int)(f:Nat)(D7:Int):(eL ns f D7).det=1\/(eL ns f D7).det=-1:=by
 have e:(eL ns f D7).det=1-2*(cell ns (f+2)%2):=xw;rw[e];lia
section
variable{P:Zy}{w:Zm}{K:Z1}{mg:Str->Option Value}{base:ZE}{f:Addr}{fd:ZD}
theorem gD:aD ["script","corners","legs","turning","area","handed","found","triangle"] ["script"] (au iF):=.mk'
noncomputable abbrev XL(P:Zy)(w:Zm)(K:Z1)(mg:Str->Option Value)(base:ZE)(f:Addr)(C6:Value)(A:ZT)(outer:List Env)(s:Shared)(H:Hp)(E:XK):Cx:=(hZ CX0 P w K mg base ["script","corners","legs","turning","area","handed","found","triangle"] "law" (au iF) f C6 A outer s H E).nox
noncomputable abbrev tLg(K:Z1):TS:=oF (gc (tOp (pJ K) (kQ (oO dq)) (tOp A7 (mx (g8 K) [] E0 (bB (dO 0) (bB (tC (.int 1)) gL))) (tC (.int 8)))) (bW 2))
 (gc (kQ (bB (uu (bB (tC (.int 0)) (bB (tC (.int 0)) gL))) (bB (uu (bB (tOp (jR K) (dO 2) (tC (.int 0))) (bB (tC (.int 0)) gL))) (bB (uu (bB (tC (.int 0)) (bB (tOp (jR K) (dO 2) (tC (.int 1))) gL))) gL)))) (bW 1))
theorem CB{l:List Stmt}{C6:Value}{A:ZT}{outer:List Env}{s:Shared}{H:Hp}{E:XK}(e:l=lz)(cC:Cal P w K mg base 1 "_law_cell_at" ["script","k"] (g8 K))(hr:dw 9 (A.deeper (So (ZN "law") (au iF) s.heap.objs.size f C6))):PSs (XL P w K mg base f C6 A outer s H E) l (tLg K):=
 Ct e gD.nd rfl (ZQ rfl) (by first|exact .inl rfl|exact .inr rfl) rfl (ZQ rfl) (by first|exact .inl rfl|exact .inr rfl) (ag dC (aB cC hr (pa2 (pv 0) ad)) ad) (fun _ _=>rfl) (pa3 (fO (pa2 ad ad)) (fO (pa2 (am aw (pv 2) ad) ad)) (fO (pa2 ad (am aw (pv 2) ad))))
set_option maxHeartbeats 1000000 in
theorem Bc(F:Fun K "law" "law" iF f fd)(cC:Cal P w K mg base 1 "_law_cell_at" ["script","k"] (g8 K))(cX:Cal P w K mg base 1 "_law_cross" ["one","other","third"] fR)(cB:Cal P w K mg base 3 "_law_fence_by" ["script","first"] (og K))(cF:Cal P w K mg base 3 "_law_fills" ["triangles","corners"] (qh P w))(cL:Cal P w K mg base 1 "_law_led" ["turning","point"] ze)
  (cQ:Cal P w K mg base 2 "_law_points_are" ["found","due"] o6)(cR:Cal P w K mg base 9 "_law_refused" ["corners"] wk)(cS:Cal P w K mg base 1 "_law_sum" ["corners"] w6)(cT:Cal P w K mg base 2 "_law_turning_by" ["script","first","far"] (nw K))(cG:Cal P w K mg base 8 "least_triangles" ["corners"] qa)
  (CW:mg "abs" = none)(B':mg "isinstance" = none)(C5:mg "len" = none)(C1:mg "list" = none)(C0:mg "reversed" = none):FnOk P w K mg base CX0 10 f fd ["script"] (oG K):=by
 refine F.ok gD (by rintro _ _ _ _⟨a,ns,rfl,_⟩;rfl) fun C6 A outer s H vs Q E hr h=>?_
 obtain⟨a,ns,rfl,hS0,h63,q⟩:=h;have hS:Scr K H a ns:=⟨hS0,h63⟩;have hu:=hr.un;have hu2:A.units+3+5<cLine:=by have:A.units+3+16*9+200<cLine:=hu;lia
 refine⟨_,aq (ay (i:=1) gD.nd (aB cB hr (pa2 (pv 0) ad)))
  (aq (bc (aV dM (ag dC (ag dv (aB cC hr (pa2 (pv 0) ad)) ad) ad) ad) (@CB P w K mg base f _ C6 A outer s H E (by kernel_rfl) cC hr) aQ)
  (aq (bc (aV dM (ag dC (aB cC hr (pa2 (pv 0) ad)) ad) ad) (aq (ay (i:=3) gD.nd (aB cT hr (pa3 (pv 0) ad (ag zM ad ad))))
   (ak (rM (c9 (i:=1) (N':=["point","turning"]) (own:=1) (ae:=[3]) rfl (aT.of (sc:=au iF) (N0:=["script","corners","legs","turning","area","handed","found","triangle"]) rfl rfl (by decide +kernel)) gD.nd rfl (ZQ rfl) (b9 (pv 1)) (fun _ _ _ _ _ _=>(aI (i:=0) lm rfl (ZQ rfl))) (fun C cl fp aa s₂ H₂=>eZ) (fun _ _ _ _ _ _=>(aB cL hr (pa2 (pv 1) (pv 0))))) (rK tj)))) aQ)
  (aq (ay (i:=4) gD.nd (aB cS hr (pa1 (pv 1))))
  (aq (ay (i:=5) gD.nd (gH jW rfl C1 Yi (pa1 (pv 1))))
  (aq (bc (aV ia (aE gs rfl CW YL (pa1 (pv 4))) ad) (ak (aC (jq (aB cR hr (pa1 (pv 5))) (jE (gP (pQ hu2) (pv 5) (pv 1)))))) aQ)
  (aq (ay (i:=6) gD.nd (aB cG hr (pa1 (pv 5))))
  (aq (bc (PW.pt (e_ (eJ (bG (aE (d_ (T := "list")) rfl B' ZM (pa2 (pv 6) (gr (v:=.ty "list") rfl C1 Yi rfl))))) (e_ (aV j6 (aE aM rfl C5 ZF (pa1 (pv 6))) (aE gs rfl CW YL (pa1 (pv 4)))) (fL (aV (Bt hu2) (pv 5) (pv 1)))))) (ak (aC cw)) aQ)
  (aq (dF ZU rfl (b9 (pv 6)) (aI (i:=7) gD.nd rfl (ZQ rfl)) (aq (bc (PW.pt (e_ (eJ (bG (aE (d_ (T := "list")) rfl B' ZM (pa2 (pv 7) (gr (v:=.ty "list") rfl C1 Yi rfl))))) (e_ (aV j6 (aE aM rfl C5 ZF (pa1 (pv 7))) ad) (fL (eJ (bG (aB cQ hr (pa2 (pv 7) (pv 7))))))))) (ak (aC cw)) aQ)
   (ak (bc (aV j6 (aE gs rfl CW YL (pa1 (aB cX hr (pa3 (am aF (pv 7) ad) (am aF (pv 7) ad) (am aF (pv 7) ad))))) ad) (ak (aC cw)) aQ))))
  (aq (bc (aV wK (pv 4) ad) (ak (ay (i:=1) gD.nd (j5 (fN rfl rfl C1 rfl C0 (pa1 (pv 1))) jw))) aQ)
  (ak (aC (aB cF hr (pa2 (pv 6) (pv 1)))))))))))))),?_⟩
 have B:=uH ns 0;refine⟨_,rfl,a,ns,0,rfl,hS,fun r0 rf0 H1 s1 hP0=>⟨[_,_,_,_,_,_,_,_],rfl,?_⟩⟩;generalize bK ns 0=c0 at *
 refine⟨_,rfl,a,ns,4,rfl,hS.mono s1,_,_,rfl,rfl,⟨by decide,by decide⟩,_,_,rfl,rfl,(show (0:Int)<9 by decide),rfl,_,rfl,?_⟩
 apply uM (α:=Option V×Addr) (Pm:=fun x H2=>av H H2/\∃rf cs,PLs H2 x.2 rf cs/\B0 cs) (mk:=fun x=>[some (.ref a),some (.ref x.2),x.1,none,none,none,none,none])
 ·intro rest;refine a9 (fun c=>?_) (fun c=>rest (none,r0) H1 ⟨s1,rf0,c0,hP0,B⟩);refine fun rg G8 e8 w8=>?_;refine⟨a_ (show 8<=1000 by decide),fun p0 hp0=>?_⟩
  have e9:=ao hp0 (.lst (aj dq.length rg));have h9:(upd G8 p0 (.lst (aj dq.length rg))) p0=some (.lst (aj dq.length rg)):=ah;generalize upd G8 p0 (.lst (aj dq.length rg))=G9 at *
  have s9:=s1.trans (e8.trans e9);obtain⟨m,hm,em⟩:∃m:Nat,m<dq.length/\cell ns 1%8=(m:Int):=by
   have h1:=Int.emod_nonneg (cell ns 1) (show (8:Int)≠0 by decide)
   have h2:=Int.emod_lt_of_pos (cell ns 1) (show (0:Int)<8 by decide)
   exact⟨(cell ns 1%8).toNat,(by show _<8;lia),by lia⟩
  have hp:PtA G9 (rg m) (at' dq m):=e9 _ _ (w8 m hm);have pm:at' dq m∈dq:=cO hm;have atm:atI (aj dq.length rg) (cell ns 1%8)=some (.ref (rg m)):=by rw[em];exact bS hm
  generalize at' dq m=p at *
  generalize rg m=t at *
  clear w8 e9 e8 hp0;refine⟨_,rfl,a,ns,1,rfl,hS.mono s9,_,_,rfl,rfl,(show (0:Int)<8 by decide),p0,_,_,_,rfl,rfl,SqL.of h9,atm,[_,_,_,_,_,_,_,_],rfl,?_⟩
  refine⟨_,_,rfl,fun u1 G1 e1 w1=>⟨_,rfl,t,_,_,_,rfl,rfl,SqT.of (e1 _ _ hp),at0,_,_,rfl,fun u2 G2 e2 w2=>⟨_,rfl,t,_,_,_,rfl,rfl,SqT.of (e2 _ _ (e1 _ _ hp)),at1,_,_,rfl,fun u3 G3 e3 w3=>?_⟩⟩⟩;refine⟨a_ (show 3<=1000 by decide),fun D hD=>?_⟩
  have e4:=ao hD (.lst [.ref u1,.ref u2,.ref u3]);have h4:(upd G3 D (.lst [.ref u1,.ref u2,.ref u3])) D=some (.lst [.ref u1,.ref u2,.ref u3]):=ah;generalize upd G3 D (.lst [.ref u1,.ref u2,.ref u3])=G4 at *
  refine rest (some (.ref t),D) G4 ⟨s9.trans (e1.trans (e2.trans (e3.trans e4))),fun i=>if i=0 then u1 else if i=1 then u2 else u3,[(0,0),(p.1,0),(0,p.2)],⟨h4,fun i hi=>?_⟩,AJ pm⟩
  have hi:i<3:=hi
  match i,hi with
  |0,_=>exact e4 _ _ (e3 _ _ (e2 _ _ w1))
  |1,_=>exact e4 _ _ (e3 _ _ w2)
  |2,_=>exact e4 _ _ w3
 clear B hP0 s1 rf0 r0 c0 H1;rintro⟨v2,r0⟩ H1 ⟨s1,rf0,c0,hP0,B⟩;refine⟨[_,_,_,_,_,_,_,_],rfl,?_⟩;have Gd:=B.b.g;have Nd:=B.n;refine⟨_,rfl,a,ns,4,rfl,hS.mono s1,_,_,rfl,rfl,(show (0:Int)<2 by decide),rfl,_,rfl,?_⟩
 apply uM (α:=Option V×Addr) (Pm:=fun x H2=>av H H2/\∃rf cs,PLs H2 x.2 rf cs/\Bs cs/\aN cs) (mk:=fun x=>[some (.ref a),some (.ref x.2),v2,x.1,none,none,none,none])
 ·intro rest;refine a9 (fun c=>?_) (fun c=>rest (none,r0) H1 ⟨s1,rf0,_,hP0,B.b,yS fun p hp=>zj (Nd p hp)⟩);refine⟨_,rfl,_,_,rfl,rfl,⟨by decide,by decide,by decide⟩,a,ns,5,10^12,rfl,hS.mono s1,by decide,by decide,fun tu H2 s2 hT=>⟨[_,_,_,_,_,_,_,_],rfl,?_⟩⟩
  have hP2:=hP0.mono s2;have k12:=Gd.fe.hi;have bT:=qD ns 5;refine⟨r0,rf0,c0,(eL ns 5 (10^12)).led,rfl,hP2,by lia,(fun k hk H' s' Q' hq=>⟨fP (by decide),?_⟩),fun D rg H' s' hP'=>?_⟩
  ·exact⟨_,rfl,_,rfl,tu,_,_,_,rfl,s' _ _ hT,s' _ _ (hP2.2 k hk),bT,zj (Nd _ (cO hk)),fun t2 H4 s4 hp4=>hq t2 H4 s4 hp4⟩
  ·refine rest (some (.ref tu),D) H' ⟨(s1.trans s2).trans s',rg,_,hP',B.led (o7 ns 5 _),fun j hj=>?_⟩;rw[Z7]at hj;rw[dS hj];exact B6 bT (Nd _ (cO hj))
 clear B Gd Nd hP0 s1 rf0 r0 c0 H1;rintro⟨v3,r⟩ H2 ⟨s2,rf,cs,hP,B,co⟩;refine⟨[_,_,_,_,_,_,_,_],rfl,?_⟩;have G:=B.g;have fe:=G.fe;have a0:=G.ar;have l3:=fe.lo;have l12:=fe.hi;obtain⟨ts,cl⟩:=vD G B.c;have di:=wP G;refine⟨_,rfl,r,rf,cs,rfl,hP,co,by lia,by lia,[_,_,_,_,_,_,_,_],rfl,?_⟩
 refine⟨_,rfl,r,rf,cs,rfl,hP,fun h H3 s3 hC=>⟨[_,_,_,_,_,_,_,_],rfl,?_⟩⟩;have hP3:=hP.mono s3;have s3:=s2.trans s3;clear s2 hP;refine⟨_,rfl,_,rfl,_,_,rfl,rfl,_,rfl,?_⟩;have eA:(if area cs<0 then-area cs else area cs)=dJ cs:=rfl
 rw[eA];have same:∀{Ha:Hp},av H3 Ha->∀(j:Nat) (x y:V),(aj cs.length rf)[j]?=some x->(aj cs.length rf)[j]?=some y->Cmp K Ha x y true:=fun {Ha} sa j x y hx hy=>by
  obtain⟨hj,rfl⟩:=bU hx;obtain⟨_,rfl⟩:=bU hy
  have:=Cmp.pt (SqT.of ((hC.mono sa).2 j hj)) (SqT.of ((hP3.mono sa).2 j hj)) (K:=K)
  rwa [Zo ⟨rfl,rfl⟩]at this
 have allT:((Z4 (aj cs.length rf).length).all fun _=>true)=true:=by simp
 refine a9 (fun c=>?_) (fun c=>⟨[_,_,_,_,_,_,_,_],rfl,?_⟩)
 ·have c60:60<dJ cs:=Zi c;refine⟨_,rfl,h,rf,cs,ts,rfl,hC,co,fe,a0,cl,di,c60,fun H4 s4=>?_⟩;refine⟨_,rfl,dt ?_⟩;refine⟨_,rfl,_,rfl,h,r,_,_,rfl,rfl,SqL.of (s4 _ _ hC.1),SqL.of (s4 _ _ hP3.1),.inr ⟨rfl,fun _=>true,same s4,?_⟩⟩;show Q (.bl ((Z4 (aj cs.length rf).length).all fun _=>true)) H4;rw[allT];exact q H4
 have c60:dJ cs<=60:=by
  have:¬((60:Int)<dJ cs):=fun z=>c (Zo z)
  lia
 refine⟨_,rfl,h,rf,cs,ts,rfl,hC,co,fe,a0,cl,di,c60,fun fo as us H4 s4 nf hF hU lo=>⟨[_,_,_,_,_,_,_,_],rfl,?_⟩⟩;obtain⟨one,len,sum⟩:=lo;have lA:=hU.len;have one1:∀t∈us,t2 t=1:=fun t ht=>(one t ht).1;refine⟨_,rfl,_,_,true,rfl,.lst hF,kS,_,rfl,eH ?_⟩;refine⟨_,rfl,fo,_,rfl,.inl (SqL.of hF),_,rfl,_,rfl,rfl,_,rfl,?_⟩;refine a9 (fun c=>absurd c ?_) (fun _=>?_)
 ·rw[eA,Z7,lA,len];simp
 refine⟨_,rfl,_,rfl,h,r,_,_,rfl,rfl,SqL.of (s4 _ _ hC.1),SqL.of (s4 _ _ hP3.1),.inr ⟨rfl,fun _=>true,same s4,_,rfl,?_⟩⟩;refine a9 (fun c=>absurd c ?_) (fun _=>⟨[_,_,_,_,_,_,_,_],rfl,?_⟩)
 ·rw[allT];simp
 refine⟨_,rfl,fo,rfl,⟨_,SqL.of hF⟩,?_⟩;refine i3 (xs:=as.map V.ref) (fun i σ H'=>(∃x7:Option V,σ=[some (.ref a),some (.ref r),v2,v3,some (.int (area cs)),some (.ref h),some (.ref fo),x7])/\H'=H4) ⟨⟨_,rfl⟩,rfl⟩ (fun i σ H' _ hI=>by rw[hI.2];exact SqL.of hF) ?_ ?_
 ·rintro i x σ H' hx ⟨⟨x7,rfl⟩,rfl⟩;rw[Zj]at hx;obtain⟨b,hb,rfl⟩:=W5.mp hx;obtain⟨t,ht,rg,hA⟩:=hU.get hb;obtain⟨t1,tc⟩:=one t (Y8 ht);have l0:0<(t3 t).length:=(by decide:0<3)
  have l1:1<(t3 t).length:=(by decide:1<3)
  have l2:2<(t3 t).length:=(by decide:2<3)
  refine⟨_,rfl,_,_,true,rfl,.lst hA.1,kS,_,rfl,eH ?_⟩;refine⟨_,rfl,b,_,rfl,.inl (SqL.of hA.1),rfl,_,rfl,?_⟩;refine a9 (fun c=>absurd c ?_) (fun _=>?_)
  ·rw[ai];show ¬(!decide (V.int ((3:Nat):Int)=V.int 3))=true;simp
  refine⟨_,rfl,_,rfl,b,b,rg,rg,t3 t,rfl,hA,hA,(by decide:3<=400),_,rfl,eH ⟨[_,_,_,_,_,_,_,_],rfl,?_⟩⟩
  refine⟨_,rfl,b,_,_,_,rfl,rfl,SqL.of hA.1,bS (k:=0) l0,?_⟩;refine⟨_,rfl,b,_,_,_,rfl,rfl,SqL.of hA.1,bS (k:=1) l1,?_⟩;refine⟨_,rfl,b,_,_,_,rfl,rfl,SqL.of hA.1,bS (k:=2) l2,?_⟩;refine⟨_,_,_,_,_,_,rfl,hA.2 0 l0,hA.2 1 l1,hA.2 2 l2,tc 0 l0,tc 1 l1,tc 2 l2,_,rfl,rfl,_,rfl,?_⟩;have eT:turn (at' (t3 t) 0) (at' (t3 t) 1) (at' (t3 t) 2)=t2 t:=rfl;rw[eT,t1];exact eH ⟨⟨_,rfl⟩,rfl⟩
 ·rintro σ H' ⟨⟨x7,rfl⟩,rfl⟩;refine⟨[_,_,_,_,_,_,_,_],rfl,?_⟩;have hP4:=hP3.mono s4;refine⟨_,rfl,_,_,rfl,rfl,_,rfl,?_⟩;apply uM (α:=Addr) (Pm:=fun x H5=>av H' H5/\∃rf,PLs H5 x rf (bn cs)) (mk:=fun x=>[some (.ref a),some (.ref x),v2,v3,some (.int (area cs)),some (.ref h),some (.ref fo),x7])
  ·intro rest;refine a9 (fun c=>?_) (fun c=>rest r H' ⟨av.refl _,rf,?_⟩)
   ·refine⟨r,rf,cs,rfl,hP4,fun l rg H5 s5 p5=>rest l H5 ⟨s5,rg,?_⟩⟩;unfold bn
    have:=Zi c
    rw[if_neg (by lia)]
    exact p5
   ·unfold bn
    have:¬(area cs<0):=fun z=>c (Zo z)
    rw[if_pos (by lia)]
    exact hP4
  rintro l H5 ⟨s5,rg,p5⟩;refine⟨[_,_,_,_,_,_,_,_],rfl,?_⟩;have feL:=lK G;have once:=(xN B.s).once one1 sum;have coL:aN (bn cs):=by
   unfold bn
   split
   ·exact co
   ·exact lf fun p hp=>jQ co (Wn.mp hp)
  exact⟨_,rfl,_,rfl,fo,l,as,us,rg,bn cs,rfl,s5 _ _ hF,hU.mono s5,one1,fun t ht=>(one t ht).2,once,by lia,p5,coL,feL,yO feL one1 sum once,fun H6 s6=>q H6⟩
end
end FD
end
section
namespace FD
open PySem L2 FF
theorem ln1{α:Type}{l:List α}(h:l.length=1):∃a,l=[a]:=List.length_eq_one_iff.mp h
theorem lnS{α:Type}{n:Nat}{l:List α}(h:l.length=n+1):∃a r,l=a::r/\r.length=n:=by
 cases l with
 |nil=>cases h
 |cons a r=>exact⟨a,r,rfl,Nat.succ.inj h⟩
theorem ln2{α:Type}{l:List α}(h:l.length=2):∃a b,l=[a,b]:=by
 obtain⟨a,r,rfl,h2⟩:=lnS h;obtain⟨b,rfl⟩:=ln1 h2;exact⟨a,b,rfl⟩
theorem ln3{α:Type}{l:List α}(h:l.length=3):∃a b c,l=[a,b,c]:=by
 obtain⟨a,r,rfl,h2⟩:=lnS h;obtain⟨b,c,rfl⟩:=ln2 h2;exact⟨a,b,c,rfl⟩
theorem ln4{α:Type}{l:List α}(h:l.length=4):∃a b c d,l=[a,b,c,d]:=by
 obtain⟨a,r,rfl,h2⟩:=lnS h;obtain⟨b,c,d,rfl⟩:=ln3 h2;exact⟨a,b,c,d,rfl⟩
noncomputable def fo(n:Str)(st:Stmt)(md:Value)(cd:Addr):Obj:={cls:=.type "function",data:=.func (X1 n n (fG st) (cV st) (au st) .none .none .none md none (.ref cd) .none)}
noncomputable def Df(K:Z1)(x:Str)(st:Stmt):Prop:=∃(f cd:Addr) (md:Value),(X2 K ZV x,K.lookup f,WI K (.ref cd) x,YG K (.ref f))=(some (some (.ref f)),some (fo x st md cd),true,true)
theorem Df.out{K:Z1}{x:Str}{st:Stmt}(d:Df K x st):∃f fd,Fun K x x st f fd/\X2 K ZV x=some (some (.ref f))/\YG K (.ref f)=true/\∃cd md,fd=X1 x x (fG st) (cV st) (au st) .none .none .none md none (.ref cd) .none:=by
 obtain⟨f,cd,md,e⟩:=d;injection e with a e
 injection e with l e
 injection e with c k
 exact⟨f,_,A6 (st:=st) l c k,a,k,cd,md,rfl⟩
noncomputable def uZ(x:Str)(st:Stmt)(ps:List Str):Prop:=∀(kV doc pm:Value) (an:Option Addr) (C6 ct:Value) (us:List Value),us.length=ps.length->bindArgs (X1 x x (fG st) (cV st) (au st) .none kV doc pm an C6 ct) ⟨us,[]⟩=pure (ps.zip us)
section
variable{P:Zy}{w:Zm}{K:Z1}{h base:ZE}{mg:Str->Option Value}{x:Str}{st:Stmt}{n:Nat}{ps:List Str}{sp:Sp}
theorem Df.cal(X:K.In h)(G:h.Ns ZV mg)(d:Df K x st)(ok:∀f fd,Fun K x x st f fd->FnOk P w K mg base CX0 n f fd ps sp)(hb:uZ x st ps:=by (intro _ _ _ _ _ _ us hl;first| (obtain⟨_,rfl⟩:=ln1 hl;rfl)| (obtain⟨_,_,rfl⟩:=ln2 hl;rfl)| (obtain⟨_,_,_,rfl⟩:=ln3 hl;rfl)| (obtain⟨_,_,_,_,rfl⟩:=ln4 hl;rfl))):Cal P w K mg base n x ps sp:=by
 obtain⟨f,fd,F,a,k,_⟩:=d.out;exact Cal.of (ok _ _ F) (F.binds hb) k (YQ X G a)
theorem Df.calX(X:K.In h)(G:h.Ns ZV mg)(d:Df K x st)(ok:∀f fd,Fun K x x st f fd->FnOk P w K mg base (CX1 P w base) n f fd ps sp)(hb:uZ x st ps:=by (intro _ _ _ _ _ _ us hl;first| (obtain⟨_,rfl⟩:=ln1 hl;rfl)| (obtain⟨_,_,rfl⟩:=ln2 hl;rfl)| (obtain⟨_,_,_,rfl⟩:=ln3 hl;rfl)| (obtain⟨_,_,_,_,rfl⟩:=ln4 hl;rfl))):qG P w K mg base n x ps sp:=by
 obtain⟨f,fd,F,a,k,_⟩:=d.out;exact qG.of (ok _ _ F) (F.binds hb) k (YQ X G a)
end
theorem B_{l:Vp}{w:Zm}{K:Z1}{h:ZE}{mg:Str->Option Value}{fa:Addr}(X:K.In h)(G:h.Ns ZV mg)(hfa:mg "law" = some (.ref fa))
  (d1:Df K "turn" uG)(d2:Df K "between" kZ)(d3:Df K "lies_on" tO)(d4:Df K "parts" pM)(d5:Df K "sides_meet" uA)(d6:Df K "goes_back" uO)(d7:Df K "sides_of" qT)(d8:Df K "some_side_goes_back" ju)(d9:Df K "some_sides_meet" jH)(d10:Df K "is_fence" qd)(d11:Df K "refuse_no_fence" ni)(d12:Df K "signed_double_area" j4)(d13:Df K "double_area" tV)(d14:Df K "goes_left" uF)(d15:Df K "doubled_area" ur)(d16:Df K "holds" lR)(d17:Df K "is_loose" jn)(d18:Df K "loose_triangle" iJ)(d19:Df K "corner_triangles" lV)(d20:Df K "step_into" o9)(d21:Df K "point_within" k7)(d22:Df K "split_at" i6)(Ez:Df K "least_triangles" oQ)(d24:Df K "_law_cell_at" tS)(d25:Df K "_law_draw" tX)(d26:Df K "_law_rows_by" uK)(d27:Df K "_law_joined" mO)(d28:Df K "_law_spiral" mI)(d29:Df K "_law_flat" oJ)(d30:Df K "_law_fence_by" i7)(d31:Df K "_law_cross" ng)(d32:Df K "_law_turning_by" kY)(d33:Df K "_law_led" ye)(d34:Df K "_law_sum" ux)(d35:Df K "_law_whole" oY)(d36:Df K "_law_points_are" nh)(d37:Df K "_law_common" lj)(d38:Df K "_law_steps" m8)(d39:Df K "_law_gone" qR)(d40:Df K "_law_fills" my)(d41:Df K "_law_refused" uL)(d42:Df K "law" iF)
  (zs:(["min","max","list","zip","range","len","enumerate","set","sum","abs","reversed","isinstance","int","bool","tuple","ValueError","any","all"]:List Str).map (X2 K ZV)=WH 18 (some none))
  {tk1:Tok}(y1:X2 K ZV "FEWEST_CORNERS" = some (some (.int 3 tk1)))
  {tk2:Tok}(y2:X2 K ZV "MOST_CORNERS" = some (some (.int 12 tk2)))
  {tk3:Tok}(y3:X2 K ZV "WIDEST" = some (some (.int 60 tk3)))
  (eE:X2 K ZV "FenceError" = some (some (.ref 24)))
  (eF:X2 K ZV "NoFence" = some (some (.ref 37)))
  (eT:X2 K ZV "NoTurning" = some (some (.ref 49)))
  (eW:X2 K ZV "TooWide" = some (some (.ref 61)))
  (xo1:yR K 61 (.ref 24::qe) "ValueError.__new__" = true)
  (xo2:mC K 61=true)
  (xo3:mC K 24=true)
  (xo4:yG K 61=true)
  (xx1:UT K (.ref 61) (.ref 24)=some true)
  (xk1:Y7 K (.ref 61) (.type "ValueError")=some true)
  (xk2:Y7 K (.ref 61) (.ref 61)=some true)
  (xk3:VE K (.ref 61) [.ref 37,.ref 49]=some false)
  : ∃fd:ZD,(∀(s:Shared) (v:Value),U9 s fd ⟨[v],[]⟩ [("script",v)])/\∀base:ZE,K.In base->base.Ns ZV mg->FnOk l.prog w K mg base CX0 10 fa fd ["script"] (oG K):=by
 obtain⟨f,fd,F,a,k,cd,md,efd⟩:=d42.out;have e:=hfa.symm.trans (YQ X G a);cases e;simp only[ZI,W4,WH,Xd,and_true]at zs;obtain⟨z1,z2,z3,z4,z5,z6,z7,z8,z9,z10,z11,z12,z13,z14,z15,z16,z17,z18⟩:=zs;have m_min:=ZB X G z1;have m_max:=ZB X G z2;have C1:=ZB X G z3;have m_zip:=ZB X G z4;have C4:=ZB X G z5;have C5:=ZB X G z6;have m_enumerate:=ZB X G z7;have m_set:=ZB X G z8;have m_sum:=ZB X G z9;have CW:=ZB X G z10;have C0:=ZB X G z11;have B':=ZB X G z12;have m_int:=ZB X G z13;have m_bool:=ZB X G z14;have Da:=ZB X G z15;have m_ValueError:=ZB X G z16;have Dx:=ZB X G z17;have Dw:=ZB X G z18;have m_FEWEST_CORNERS:=YQ X G y1;have m_MOST_CORNERS:=YQ X G y2;have D0:=YQ X G y3;refine⟨fd,fun s v=>by subst efd;exact .of_eq rfl,fun base KB _=>?_⟩
 have e_E:=YQ X G eE;have e_F:=YQ X G eF;have e_T:=YQ X G eT;have e_W:=YQ X G eW;have O_W:=AT KB xo1 xo2 xo3;have Z_W:=vX xo4;have dc:=fun {x:Str} {st:Stmt} {n:Nat} {ps:List Str} {sp:Sp}=>@Df.cal l.prog w K h base mg x st n ps sp X G;have dx:=fun {x:Str} {st:Stmt} {n:Nat} {ps:List Str} {sp:Sp}=>@Df.calX l.prog w K h base mg x st n ps sp X G;have c_turn:=dc d1 fun _ _ F=>zU (n:=0) F;have c_between:=dc d2 fun _ _ F=>uR (n:=0) F m_min m_max;have c_lies_on:=dc d3 fun _ _ F=>zH F c_between c_turn;have c_parts:=dc d4 fun _ _ F=>xt F c_turn;have c_sides_meet:=dc d5 fun _ _ F=>AF F c_lies_on c_parts;have c_goes_back:=dc d6 fun _ _ F=>Al F c_turn;have c_sides_of:=dc d7 fun _ _ F=>yl (n:=0) F C1 m_zip;have c_some_side_goes_back:=dc d8 fun _ _ F=>q_ F c_goes_back C4 C5;have c_some_sides_meet:=dc d9 fun _ _ F=>qY F c_sides_of c_sides_meet m_enumerate;have c_is_fence:=dc d10 fun _ _ F=>xG F c_some_side_goes_back c_some_sides_meet C5 m_set m_FEWEST_CORNERS m_MOST_CORNERS;have c_refuse_no_fence:=dc d11 fun _ _ F=>vv F c_is_fence;have c_signed_double_area:=dc d12 fun _ _ F=>u_ F c_sides_of m_sum;have c_double_area:=dc d13 fun _ _ F=>Av F c_refuse_no_fence c_signed_double_area CW;have c_goes_left:=dc d14 fun _ _ F=>AO F c_refuse_no_fence c_signed_double_area;have c_doubled_area:=dc d15 fun _ _ F=>AL F c_turn;have c_holds:=dc d16 fun _ _ F=>ya F c_sides_of c_turn Dw;have c_is_loose:=dc d17 fun _ _ F=>xU F c_doubled_area c_holds Dx;have c_loose_triangle:=dc d18 fun _ _ F=>uX F c_is_loose C5 C4;have c_corner_triangles:=dc d19 fun _ _ F=>yz F c_loose_triangle C5 C1;have c_step_into:=dc d20 fun _ _ F=>xq (n:=0) F;have c_point_within:=dc d21 fun _ _ F=>Cc F c_doubled_area c_step_into C4;have c_split_at:=dc d22 fun _ _ F=>tG F c_doubled_area;have c_least_triangles:=dc Ez fun _ _ F=>(pX F c_corner_triangles c_double_area c_doubled_area c_goes_left c_point_within c_split_at C5 C1 C0 D0 e_W O_W).calm Cj;have x_least:=dx Ez fun _ _ F=>pX F c_corner_triangles c_double_area c_doubled_area c_goes_left c_point_within c_split_at C5 C1 C0 D0 e_W O_W;have c__law_cell_at:=dc d24 fun _ _ F=>AQ (n:=0) F C5;have c__law_draw:=dc d25 fun _ _ F=>AC (n:=0) F;have c__law_rows_by:=dc d26 fun _ _ F=>zW F c__law_cell_at c__law_draw C4;have c__law_joined:=dc d27 fun _ _ F=>wt (n:=0) F C1 C0 C5;have c__law_spiral:=dc d28 fun _ _ F=>vC (n:=0) F;have c__law_flat:=dc d29 fun _ _ F=>AD (n:=0) F C5 C4;have c__law_fence_by:=dc d30 fun _ _ F=>rz F c__law_cell_at c__law_rows_by c__law_joined c__law_spiral c__law_flat C5 C1 C0;have c__law_cross:=dc d31 fun _ _ F=>wH (n:=0) F;have c__law_turning_by:=dc d32 fun _ _ F=>uc F c__law_cell_at;have c__law_led:=dc d33 fun _ _ F=>Cl (n:=0) F;have c__law_sum:=dc d34 fun _ _ F=>AE (n:=0) F C5 C4;have C7:=dc d35 fun _ _ F=>yd (n:=0) F B' m_int m_bool;have c__law_points_are:=dc d36 fun _ _ F=>tY F C7 B' C1 C5 Da;have c__law_common:=dc d37 fun _ _ F=>tU (n:=0) F CW;have c__law_steps:=dc d38 fun _ _ F=>va F c__law_common C5 C4;have c__law_gone:=dc d39 fun _ _ F=>yX F c__law_cross C1 C4 C0;have c__law_fills:=dc d40 fun _ _ F=>vL F c__law_gone c__law_steps;have c__law_refused:=dc d41 fun _ _ F=>AA F x_least ⟨e_E,e_F,e_T,e_W⟩ m_ValueError B' Z_W xx1 xk1 xk2 xk3;exact Bc F c__law_cell_at c__law_cross c__law_fence_by c__law_fills c__law_led c__law_points_are c__law_refused c__law_sum c__law_turning_by c_least_triangles CW B' C5 C1 C0
theorem walk{l:Vp}{q:Zy}{loose:List Str}{XP:(Str->Option Value)->ZE->Prop}{YP:Zm->ZE->Prop}{d:DefRec}{K:UE->Z1}(hn:l.most=some 63)(DX:d.params.defaults=[])
  (hY:∀(w:Zm) (h:ZE),YP w h->(K w.params).In h)
  (F:∀(w:Zm) (mg:Str->Option Value) (fa:Addr) (h:ZE),(K w.params).In h->h.Ns ZV mg->mg d.name=some (.ref fa)->
   ∃fd:ZD,(∀(s:Shared) (u:Value),U9 s fd ⟨[u],[]⟩ [("script",u)])/\∀base:ZE,(K w.params).In base->base.Ns ZV mg->FnOk l.prog w (K w.params) mg base CX0 10 fa fd ["script"] (oG (K w.params))):
  Tl q loose XP YP l.row.toRowW d [] (fun f vs=>UF f vs):=
 L2.zT (n:=63) (k:=10) (x := "script") (CX:=fun _=>CX0) (sp:=fun w=>oG (K w.params)) hn (by decide) DX ⟨rfl,by decide,by decide⟩ hY F (fun _ _ a ns hl _ hS=>⟨a,ns,rfl,hS,hl,fun _=>rfl⟩) fun _ _ _ _ _ z=>z
end FD
end
open PySem PySem.W PyProof.Rows
set_option maxRecDepth 100000 in
set_option maxHeartbeats 0 in
theorem PySem.Challenge.cw_fencefield_k15_whole_least_triangles_holds : PySem.Challenge.rw_fencefield_k15_whole_least_triangles.Holds := by
 refine PySem.W.holds_law (by kernel_rfl) fun said=>?_
 refine PySem.W.holds_open (q:=FD.VQ) (loose:=[]) (Xt:=fun s=>Uz FD.VQ [] s&&VP (Wk PySem.Challenge.rw_fencefield_k15_whole_least_triangles.row.toRowW) s) (XP:=PySem.W.XL FD.VQ []) (Yf:=V1 FD.HK) (Ya:=V2 FD.HK) (YP:=PySem.W.Hook.says FD.HK) (N:=4484) FD.left (PySem.W.Hook.of FD.HK) (PySem.W.Hook.keeps FD.HK) (fun s e=>PySem.W.xl_of s (VF.mp e).1) PySem.W.XL.keeps (by rfl) (by rfl) (by rfl) (fun s e=>PySem.W.recFacts_of (VF.mp e).2) (by rfl) said (by decide +kernel) ⟨rfl,rfl,rfl,rfl,rfl,by decide +kernel⟩ ?hw ?hc
 case hw=>w_witness2
 case hc=>
  refine FD.walk (l:=PySem.Challenge.rw_fencefield_k15_whole_least_triangles) rfl rfl (fun w h Y=>PySem.W.kIn_of Y) ?F
  case F=>
   intro w mg fa h KX G hmg;exact FD.B_ KX G hmg ⟨70,69,FD.vS "fencefield.sides" 255,by kernel_rfl⟩ ⟨77,76,FD.vS "fencefield.sides" 255,by kernel_rfl⟩ ⟨84,83,FD.vS "fencefield.sides" 255,by kernel_rfl⟩ ⟨91,90,FD.vS "fencefield.sides" 255,by kernel_rfl⟩ ⟨98,97,FD.vS "fencefield.sides" 255,by kernel_rfl⟩ ⟨105,104,FD.vS "fencefield.sides" 255,by kernel_rfl⟩ ⟨140,139,FD.vS "fencefield.fences" 317,by kernel_rfl⟩ ⟨147,146,FD.vS "fencefield.fences" 317,by kernel_rfl⟩ ⟨154,153,FD.vS "fencefield.fences" 317,by kernel_rfl⟩ ⟨112,111,FD.vS "fencefield.fences" 317,by kernel_rfl⟩ ⟨133,132,FD.vS "fencefield.fences" 317,by kernel_rfl⟩ ⟨159,158,FD.vS "fencefield.fences" 317,by kernel_rfl⟩ ⟨119,118,FD.vS "fencefield.fences" 317,by kernel_rfl⟩ ⟨126,125,FD.vS "fencefield.fences" 317,by kernel_rfl⟩ ⟨173,172,FD.vS "fencefield.cutting" 384,by kernel_rfl⟩ ⟨193,192,FD.vS "fencefield.cutting" 384,by kernel_rfl⟩ ⟨188,187,FD.vS "fencefield.cutting" 384,by kernel_rfl⟩ ⟨183,182,FD.vS "fencefield.cutting" 384,by kernel_rfl⟩ ⟨178,177,FD.vS "fencefield.cutting" 384,by kernel_rfl⟩ ⟨205,204,FD.vS "fencefield.cutting" 384,by kernel_rfl⟩ ⟨198,197,FD.vS "fencefield.cutting" 384,by kernel_rfl⟩ ⟨210,209,FD.vS "fencefield.cutting" 384,by kernel_rfl⟩ ⟨166,165,FD.vS "fencefield.cutting" 384,by kernel_rfl⟩ ⟨217,216,FD.vS "law_fencefield_k15_whole_least_triangles" 453,by kernel_rfl⟩ ⟨224,223,FD.vS "law_fencefield_k15_whole_least_triangles" 453,by kernel_rfl⟩ ⟨238,237,FD.vS "law_fencefield_k15_whole_least_triangles" 453,by kernel_rfl⟩ ⟨245,244,FD.vS "law_fencefield_k15_whole_least_triangles" 453,by kernel_rfl⟩ ⟨252,251,FD.vS "law_fencefield_k15_whole_least_triangles" 453,by kernel_rfl⟩ ⟨257,256,FD.vS "law_fencefield_k15_whole_least_triangles" 453,by kernel_rfl⟩ ⟨262,261,FD.vS "law_fencefield_k15_whole_least_triangles" 453,by kernel_rfl⟩ ⟨231,230,FD.vS "law_fencefield_k15_whole_least_triangles" 453,by kernel_rfl⟩ ⟨269,268,FD.vS "law_fencefield_k15_whole_least_triangles" 453,by kernel_rfl⟩ ⟨276,275,FD.vS "law_fencefield_k15_whole_least_triangles" 453,by kernel_rfl⟩ ⟨283,282,FD.vS "law_fencefield_k15_whole_least_triangles" 453,by kernel_rfl⟩ ⟨290,289,FD.vS "law_fencefield_k15_whole_least_triangles" 453,by kernel_rfl⟩ ⟨297,296,FD.vS "law_fencefield_k15_whole_least_triangles" 453,by kernel_rfl⟩ ⟨304,303,FD.vS "law_fencefield_k15_whole_least_triangles" 453,by kernel_rfl⟩ ⟨311,310,FD.vS "law_fencefield_k15_whole_least_triangles" 453,by kernel_rfl⟩ ⟨318,317,FD.vS "law_fencefield_k15_whole_least_triangles" 453,by kernel_rfl⟩ ⟨325,324,FD.vS "law_fencefield_k15_whole_least_triangles" 453,by kernel_rfl⟩ ⟨332,331,FD.vS "law_fencefield_k15_whole_least_triangles" 453,by kernel_rfl⟩ ⟨337,336,FD.vS "law_fencefield_k15_whole_least_triangles" 453,by kernel_rfl⟩ (by kernel_rfl) (tk1:=319) (by kernel_rfl) (tk2:=321) (by kernel_rfl) (tk3:=386) (by kernel_rfl) (by kernel_rfl) (by kernel_rfl) (by kernel_rfl) (by kernel_rfl) (by kernel_rfl) (by kernel_rfl) (by kernel_rfl) (by kernel_rfl) (by kernel_rfl) (by kernel_rfl) (by kernel_rfl) (by kernel_rfl)
