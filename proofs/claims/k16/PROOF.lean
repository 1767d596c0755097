import PyProof.Rows.All
import KE.KDictOf
import KE.KFromBytes
import KE.KItem
import KE.KRevIter
import KE.KTryMore
import KE.KUnpack
import PySem.Challenge.RW_fencefield_k16_what_is_refused
set_option Elab.async false
set_option compiler.extract_closed false
set_option linter.all false
set_option maxRecDepth 100000
open Array renaming getD_eq_getD_getElem?->Zc,getElem?_eq_getElem->Zb,length_toList->ZG,getElem?_toList->Y4,getElem?_eq_none->YB,getElem?_eq_some_iff->YQ,forIn_toList->Wx,getElem?_push->WL,size_map->WZ,size_setIfInBounds->Vz,getElem?_extract->Vd,replicate->VD,append_assoc->Ut,getElem?_map->Uo,toList_push->UB,size_push->UQ,getD->UZ,toList->TZ
open Bool renaming false_eq_true->Zw,false_ne_true->Zm,and_eq_true->ZA,noConfusion->ZM,eq_iff_iff->ZS,not_eq_true'->Yr,eq_false_iff->Yq,not_true->YG,or_eq_true->Xp,false_and->Xc,and_true->Wz,and_false->Wo,or_false->WB,or_eq_false_iff->WG,not_false->WY,and_eq_true_iff->U4,true_and->Uw,or_true->Ub
open Classical renaming byContradiction->Z9
open ForInStep renaming yield->X5
open List renaming getD_eq_getElem?_getD->Z0,getElem?_eq_getElem->Z2,range->Z4,length_append->Z5,length_map->Z6,mem_cons->Zz,mem_range->Zy,length_drop->Zu,size_toArray->Zs,not_mem_nil->Zr,mem_cons_of_mem->Zo,getElem?_map->Zn,mem_singleton->Zj,length_take->Zi,getElem?_eq_some_iff->Zh,length_cons->Zg,length_reverse->Ze,length_range->Zd,mem_cons_self->Za,mem_append_right->ZB,take_append_drop->ZC,mem_append->ZE,mem_filter->ZI,getElem?_append_left->ZL,getElem?_eq_none->ZO,append_nil->ZT,map_append->ZU,getElem?_append_right->Y1,append_assoc->Y2,map_cons->Y5,mem_map->Y9,lookup_cons->Yz,getElem?_toArray->Yy,getElem?_take_of_lt->Yx,getElem_of_mem->Yv,all_eq_true->Yt,eq_nil_of_length_eq_zero->Yo,mem_of_find?_eq_some->Yn,length_dropLast->Yg,range_succ->Ye,nil_append->Yc,any_eq_true->YA,getElem_mem->YC,map_map->YK,length_nil->YL,getElem?_drop->YM,getElem?_range->YR,length_singleton->YS,eraseIdx_zero->YW,filter_append->YX,filter_cons->YY,mem_of_mem_take->X0,getElem?_replicate->X2,reverse_cons->X3,ext_getElem?->X4,find?_cons->X6,nodup_cons->Xs,getElem?_set_ne->Xo,mem_of_getLast?->Xm,mem_of_mem_drop->Xl,mem_iff_getElem->Xk,take_succ_eq_append_getElem->Xj,filterMap_cons->Xe,mem_filterMap->XA,take_of_length_le->XE,length_replicate->XI,getElem?_reverse->XM,dropLast_eq_take->XN,length_filter_le->XO,mem_append_left->XT,ext_getElem->XY,map_reverse->XZ,pairwise_iff_getElem->W2,drop_eq_getElem_cons->W4,map_congr_left->W7,filter_nil->Wy,length->Wv,getElem?_set_self->Ws,map_nil->Wn,eraseIdxIfInBounds_toArray->Wk,cons_append->Wd,length_tail->Wc,mem_reverse->Wb,mem_of_getElem?->WC,of_mem_zip->WH,filter_map->WK,reverse_append->WM,length_pos_iff->WN,filter_eq_self->WP,replicate->WV,drop_zero->V2,findIdx?_eq_none_iff->V5,range'->V9,any_cons->Vu,range'_succ->Vk,isEmpty_nil->Vj,range_succ_eq_map->VA,find?_some->VC,forIn_cons->VF,length_set->VG,countP_singleton->VI,singleton_append->VS,range_eq_range'->U2,map->U3,drop_one->Ux,find?_eq_none->Ur,countP_append->Uq,pairwise_cons->Uk,getElem_range->Uj,take_sublist->Ug,any_map->UA,take_length->UJ,getElem_map->UK,lookup->UL,filter->UM,forIn_nil->T6,take->TX
open List.Perm renaming pairwise_iff->Wl
open List.Sublist renaming eq_of_length->Tk
open List.cons renaming injEq->WJ
open Option renaming isSome_iff_exists->W9,map_eq_some_iff->Ve,isSome_some->Up,getD_none->UF,map_none->UO,map_some->UP,none->Sl
open Option.some renaming inj->ZH
open Or renaming inl->ZQ,inr->UU
open Prod renaming ext->YT,snd->Vq,fst->Uc
open PyProof renaming noPylong_of_log2->Vv
open PyProof.Rows renaming callWith_type1->ZV,boot_abs->YV,boot_isinstance->X7,boot_list->Xx,AllBare->Wa,subscriptTail_builtinR->Vg,boot_set->VO,boot_sum->VP,boot_any->VR,floordiv_int->Uh,callWith_builtin1->UE,Subscript_->UV,boot_sorted->TR,iadd_int->S_,boot_min->Sz,boot_max->Sy,boot_all->Sx
open PyProof.Rows.F renaming plain_set_update_loop->Y6,entry_set_update_loop->YE
open PySem renaming wpAny_bind->Z1,wpAny_pure->Z7,Program->Zv,wpAny->Zq,starEach->Zp,World->Zl,FuncData->Zf,Heap->ZF,boot_len->ZJ,Around->ZK,Expr->ZN,intKind->ZP,mem_of_lookup->ZR,SetTable->ZX,mainGlobals->ZZ,wpAny_mono->Y0,IsTupleKey->Yw,rawInt->Yu,codeAny_builtin->Yk,wpAny_holding->Yj,wpAny_Call_Name_kw->Yh,wpAny_setState_of->YF,builtinLookup_eq_fast->YU,wpAny_truthy_bool->X1,codeAny_mono->X_,IsPair->Xy,wpAny_call_entry->Xv,wpAny_passesOwn->Xu,wpAny_specialOf->Xr,wpAny_updateSeq->Xq,wpAny_pyIter_list->Xn,plainId_quiet->Xi,codeAny->Xd,wpAny_callSpecial?_slot->Xa,Builtin->XC,wpAny_execs_nil->XF,typeLookup_type->XG,Scope->XQ,wpAny_newObj_type->XS,sizeLine_eq->XU,wpAny_seqItems->XV,codeAny_call_builtin->XW,wpAny_askSetting->W1,NameKind->W8,wpAny_setField_rec->Ww,GenState->Wt,wpAny_storeSet_of->Wm,wpAny_execs_cons->Wh,wpAny_isInstance->Wf,wpAny_field->WE,ZipApart->WF,wpAny_setEntries_of->WO,wpAny_typeOf->WQ,wpAny_newFunctionEnv_cells->WW,call_meets->WX,isSubtype_type->V1,wpAny_loadPart_at->V_,wpAny_attempt->Vx,wpAny_comprehension_free->Vw,wpAny_forIn_list->Vr,wpAny_pyIter_zip->Vl,wpAny_call->Vh,wpAny_nextOf_list_item->Vc,intKind_is->Va,codeAny_of_tree->VE,codeAny_call_function->VH,wpAny_eqIsQuiet_tuple->VJ,weight_type_call_type->VM,wpAny_pyNext_zip_item->VN,Result->VT,wpAny_of_eq->VX,wpAny_runValue->VZ,codeAny_extend_loopS->U0,wpAny_pyNext_zip_end->U1,tupleKind->U6,BindsTo->U7,wpAny_Tuple_spliced->U8,tupleKind_room_in1->Ul,wpAny_assign_Name->Ui,wpAny_pyIter_enum->Ud,fits_of_scanBound->UC,wpAny_pyIter_slot->UD,check_set_init_1->UH,entryFor_of_fast->UI,Model->UR,wpAny_Name->US,wpAny_Expr_any->UT,Params->UW,call->UX,Moved->T0,callType_codes->T5,isSubtype_stop->T7,wpAny_rule->T8,entryFor_alias->Tx,wpAny_fieldsOf->Tw,intBits_le_64->Tj,evalPart_none->TF,call_list_seq->TH,code_list_new->TL,wpAny_standAt->TM,Arguments->TV,Keyword->S0,name_of_addr->S3,codeAny_func->S4,ItemsOf->S6,ExcBaseFacts->S8,IsRangeIter->Sw,Operator->Sv,CmpOp->Su,seqIndex_of->Ss,wpAny_letGo->Sh
open PySem.Around renaming under_plainId->Yp,frames_deeper->VU,under_plain->Um
open PySem.AutoSeq1 renaming list_extend_list_list_0->Uf
open PySem.Builtin.Frozenset renaming updateFrom->WI,newClass->Ty,addrOf->TN,sizeOf->TQ,slot0->TY
open PySem.Builtin.Int renaming intBits->U_
open PySem.Builtin.List renaming listExtendWith->ZW,listSameRef->YH,listLengthHint->Xz,listItems->XD,listTooLong->W_,listUpdate->Vp,listTouch->S7
open PySem.Builtin.Range renaming rangeSize->TU
open PySem.Builtin.SmallTypes renaming ownedTupleIsFree->YI,nextOf->W3
open PySem.Calls renaming Name_function_global->WS,spliced_cons->WT,spliced_nil->V7,callWith_builtin->Vf,evalArgs_plain->VW
open PySem.Code renaming quiet_builtin->V0
open PySem.Data renaming cls->UY
open PySem.EqMixed renaming eq_bool_str->Ts,eq_str_bool->Tr,ne_bool_str->Tm,ne_str_bool->Tl,eq_int_str->Tf,eq_str_int->Td,ne_int_str->TB,ne_str_int->TD
open PySem.EqNone renaming eq_none_none->Tv,eq_none_bool->Tu,eq_bool_none->Tt,ne_none_none->Tq,ne_none_bool->Tp,ne_bool_none->To,eq_none_int->Ti,eq_none_str->Th,eq_int_none->Tg,eq_str_none->Te,ne_none_int->Tc,ne_none_str->Tb,ne_int_none->Ta,ne_str_none->TC
open PySem.F renaming plainAttrs_list->Y3,plain_extend_loop->YD,slot_list_append->Xh,type_list_append->Xg,slot_zip_next->XJ,slot_list_pop->Wj,type_list_pop->Wi,entry_extend_loop->V4,args_list_init_2->Vy,typeCall_list_1->Vo,entry_list_init->Vn,args_zip_next_1->Vm,plain_list_iadd->Vi,entry_zip_next->Vb,called_list->U9
open PySem.Heap renaming get?_push_of_some->Z8,lt_size->Z_,get?_push_size->Zk,size_push->Ys,get?_update_other->Ym,get?_update_self->Yi,SameBut->X9,size_update->We,FlyingW->WR,MadeExcOf->T9
open PySem.Heap.SameBut renaming update->W5,refl->V8
open PySem.ItemsOf renaming nil->Sk
open PySem.MeetsSeq renaming list_pop_last->S5,list_pop_at->Sn
open PySem.NameKind renaming free->Yd,cell->XH
open PySem.Obj renaming mapSeq->Y8,putSet->Wg
open PySem.PassesOwn renaming never->Yb
open PySem.SeqAt.EqAt renaming int_int->XB,int_str->Uv,str_int->Uu,same->UN,none_bool->Sr,bool_none->Sq,bool_bool->So,none_int->Sf,none_str->Se,bool_int->Sd,bool_str->Sc,int_none->Sb,int_bool->Sa,str_none->SA,str_bool->SB
open PySem.SeqAt.RcNeAt renaming tuples->SD
open PySem.SetTable renaming tooFull->Xb,fill->WA,grown->VY,fits->Uy,slot->TK,Probe->TW,sameMemory->SC
open PySem.Str renaming ofString->ZY
open PySem.W renaming Frag->Z3,mg_none_of->ZD,kitOne->Y7,keepIn->Yl,mg_of->YN,fnOf->YO,nsIn->Xw,exmOne->XX,hideAll_get->Wu,cellsFrom_some->Wr,codeIn->Wq,callWith_K->WU,methodObj->V6,OpenLaw->VB,recOk->Uz,codeRec_of->Us,xlAt->Ue,looks_findIn->Ua,openGood->UG,funFrames_hide->T_,WalkO->TJ,hideAll_none->S9,looks_mroIn->Sg
open PySem.W.Hook renaming obs->Vt,val->Vs
open PySem.W.Looks renaming «at»->Tz
open PySem.W.RowW renaming records->WD
open PySem.Walks renaming list->T4
open Sum renaming inr->YZ,inl->U5
open True renaming intro->V3
theorem Zx:type_of% @of_decide_eq_true:=@of_decide_eq_true
theorem Zt:type_of% @decide_eq_true:=@decide_eq_true
theorem Y_.{u0,u1}:type_of% @congrArg.{u0,u1}:=@congrArg
theorem YJ:type_of% @decide_eq_false:=@decide_eq_false
theorem X8.{u0}:type_of% @beq_eq_false_iff_ne.{u0}:=@beq_eq_false_iff_ne
theorem XR.{u0}:type_of% @if_true.{u0}:=@if_true
theorem W0:type_of% @decide_eq_decide:=@decide_eq_decide
theorem W6:type_of% @not_or:=@not_or
section
namespace L2
open PySem PySem.Spec PyProof.Rows
noncomputable abbrev Key:=Sum Int Str
noncomputable def lr:Key->Value->Bool
 | .inl k,v=>Value.isInt k v
 | .inr x,v=>Value.isStrOf x v
noncomputable def keyH(w:Zl):Key->Int
 | .inl k=>hashInt k
 | .inr x=>hashStr w x
theorem df:∀{k:Key} {v:Value},lr k v=true->(∃i t,k=U5 i/\v=Value.int i t)\/(∃x t,k=YZ x/\v=Value.str x t)
 | .inl i,v,h=>by
  obtain⟨t,e⟩:=Value.isInt_shape (k:=i) (v:=v) h;exact .inl ⟨i,t,rfl,e⟩
 | .inr x,v,h=>by
  obtain⟨t,e⟩:=Value.isStrOf_shape (x:=x) (v:=v) h;exact .inr ⟨x,t,rfl,e⟩
theorem yz(i:Int)(t:Tok):lr (.inl i) (.int i t)=true:=by simp[lr,Value.isInt]
theorem yh(x:Str)(t:Tok):lr (.inr x) (.str x t)=true:=by simp[lr,Value.isStrOf]
theorem Ds(a b:Int):decide ((U5 a:Key)=U5 b)=(a==b):=by
 by_cases e:a=b
 ·subst e;simp
 ·have h:¬(U5 a:Key)=U5 b:=fun q=>e (Sum.inl.inj q);rw[YJ h];exact (X8.mpr e).symm
theorem CS(a b:Str):decide ((YZ a:Key)=YZ b)=decide (a=b):=by
 by_cases e:a=b
 ·subst e;simp
 ·have h:¬(YZ a:Key)=YZ b:=fun q=>e (Sum.inr.inj q);rw[YJ h,YJ e]
theorem Dg(a:Int)(b:Str):decide ((U5 a:Key)=YZ b)=false:=YJ (fun q=>nomatch q)
theorem Db(a:Str)(b:Int):decide ((YZ a:Key)=U5 b)=false:=YJ (fun q=>nomatch q)
noncomputable def c_(prog:Zv)(w:Zl):PySem.KeyKind prog w Key where
 is:=lr
 hash:=keyH w
 inj:=fun v a b ha hb=>by
  rcases df ha with ⟨i,t,rfl,rfl⟩|⟨x,t,rfl,rfl⟩
  ·rcases df hb with ⟨j,u,rfl,e⟩|⟨y,u,rfl,e⟩
   ·injection e with e1 _;rw[e1]
   ·exact nomatch e
  ·rcases df hb with ⟨j,u,rfl,e⟩|⟨y,u,rfl,e⟩
   ·exact nomatch e
   ·injection e with e1 _;rw[e1]
 byValue:=fun k v h=>by
  rcases df h with ⟨i,t,rfl,rfl⟩|⟨x,t,rfl,rfl⟩<;>rfl
 pyHash:=fun hv h=>by
  rcases df hv with ⟨i,t,rfl,rfl⟩|⟨x,t,rfl,rfl⟩
  ·exact wpAny_pyHash_int h
  ·exact wpAny_pyHash_str h
 eqBool:=fun hu hv h=>by
  rcases df hu with ⟨i,t,rfl,rfl⟩|⟨x,t,rfl,rfl⟩
  ·rcases df hv with ⟨j,u,rfl,rfl⟩|⟨y,u,rfl,rfl⟩
   ·rw[Ds]at h;exact wpAny_eqBool_int h
   ·rw[Dg]at h;exact Uv i t y u _ _ _ _ h
  ·rcases df hv with ⟨j,u,rfl,rfl⟩|⟨y,u,rfl,rfl⟩
   ·rw[Db]at h;exact Uu x t j u _ _ _ _ h
   ·rw[CS]at h;exact wpAny_eqBool_str h
 «strs»:=fun k x t v h=>by
  rcases df h with ⟨i,u,rfl,e⟩|⟨y,u,rfl,e⟩
  ·exact nomatch e
  ·injection e with e1 _
   subst e1;cases v<;>rfl
theorem tF(prog:Zv)(w:Zl)(i:Int)(t:Tok):(c_ prog w).is (.inl i) (.int i t)=true:=yz i t
theorem tP(prog:Zv)(w:Zl)(x:Str)(t:Tok):(c_ prog w).is (.inr x) (.str x t)=true:=yh x t
end L2
namespace L2
open PySem PySem.Spec PyProof.Rows
inductive V where
 |non|bl (b:Bool)|int (i:Int)|str (x:Str)|byt (b:Array UInt8)|flt (b:UInt64)|ref (a:Addr)|ty (n:String)
 deriving DecidableEq
noncomputable def RelV:V->Value->Prop
 | .non,u=>u=Value.none
 | .bl b,u=>u=Value.bool b
 | .int i,u=>∃t,u=Value.int i t
 | .str x,u=>∃t,u=Value.str x t
 | .byt b,u=>∃t,u=Value.bytes b t
 | .flt b,u=>∃t,u=Value.float b t
 | .ref a,u=>u=Value.ref a
 | .ty n,u=>u=Value.type n
noncomputable abbrev aR:List V->List Value->Prop:=Paired RelV
theorem aR.length{xs:List V}{us:List Value}(r:aR xs us):xs.length=us.length:=Paired.length r
theorem aR.get:∀{xs:List V} {us:List Value} {i:Nat} {x:V},aR xs us->xs[i]?=some x->∃u,us[i]?=some u/\RelV x u
 |_,_,_,_,.nil,e=>by simp at e
 |_,_,0,_,.cons r _,e=>by simp at e;subst e;exact⟨_,rfl,r⟩
 |_,_,i+1,x,.cons _ t,e=>by
  obtain⟨u,h1,h2⟩:=aR.get (i:=i) (x:=x) t (by simpa using e)
  exact⟨u,by simpa using h1,h2⟩
theorem aR.append:∀{xs ys:List V} {us ws:List Value},aR xs us->aR ys ws->aR (xs++ys) (us++ws)
 |_,_,_,_,.nil,s=>s
 |_,_,_,_,.cons r t,s=>.cons r (aR.append t s)
theorem aR.take:∀{xs:List V} {us:List Value} (n:Nat),aR xs us->aR (xs.take n) (us.take n)
 |_,_,0,_=>.nil
 |_,_,_+1,.nil=>.nil
 |_,_,n+1,.cons r t=>.cons r (aR.take n t)
theorem aR.drop:∀{xs:List V} {us:List Value} (n:Nat),aR xs us->aR (xs.drop n) (us.drop n)
 |_,_,0,r=>r
 |_,_,_+1,.nil=>.nil
 |_,_,n+1,.cons _ t=>aR.drop n t
noncomputable def jd:Option V->Option Value->Prop
 |some v,some u=>RelV v u
 |none,none=>True
 |_,_=>False
noncomputable def KV{κ:Type}:List (κ×V)->List (κ×Value)->Prop:=Paired fun (p:κ×V) (q:κ×Value)=>p.1=q.1/\RelV p.2 q.2
noncomputable def kV:Key->V
 | .inl i=>.int i
 | .inr x=>.str x
inductive HO where
 |lst (xs:List V)
 |tup (xs:List V)
 |dK (D':List (Key×V))|dT (D':List (List Key×V))
 |set (S:Int->Bool) (n:Nat)
 |ins (C dx:Addr) (fs:List (Str×V))
 |own (x:Addr)
 |xd (fs:List (Str×V))
 |met (f x:Addr)
 |rng (lo hi:Int)
 |frz (o:Obj) (u:HO)
 |tbl (ps:Array Value)
 |ext (φ:ZF->Prop)
noncomputable abbrev Hp:=Addr->Option HO
noncomputable def upd(H:Hp)(a:Addr)(o:HO):Hp:=fun b=>if b=a then some o else H b
theorem aj{H:Hp}{a:Addr}{o:HO}:upd H a o a=some o:=by unfold upd;rw[if_pos rfl]
theorem aG{H:Hp}{a b:Addr}{o:HO}(h:b≠a):upd H a o b=H b:=by unfold upd;rw[if_neg h]
theorem iZ{H:Hp}{a b:Addr}{o u:HO}(h:H a=some o)(h':H b=some u)(d:o≠u):a≠b:=by
 intro e;subst e;rw[h]at h';exact d (ZH h')
theorem a9{H:Hp}{a b:Addr}{o:HO}(h:H a=some o)(h':H b=none):a≠b:=by
 intro e;subst e;rw[h]at h';cases h'
section
variable(P:Zv)(w:Zl)
noncomputable def bF(H:Hp)(h:ZF)(a:Addr):HO->Prop
 | .lst xs=>xs.length<=sizeLine/\∃(C':List Value) (n:Nat),aR xs C'/\h.get? a=some {cls:=.type "list",data:=.seq C'.toArray n}
 | .tup xs=>xs.length<=sizeLine/\∃C':List Value,aR xs C'/\IsTup h a C'.toArray
 | .dK D'=>D'.length<=sizeLine/\(a==sysModules)=false/\∃vs,KV D' vs/\h.DictOf (c_ P w) a vs
 | .dT D'=>D'.length<=sizeLine/\(a==sysModules)=false/\∃xs:List (List Key×Addr×Value),
   Paired (fun (p:List Key×V) (q:List Key×Addr×Value)=>p.1=q.1/\H q.2.1=some (.tup (p.1.map kV))/\RelV p.2 q.2.2) D' xs/\
   ∃o es ep,h.get? a=some o/\o.ExactDict/\o.data=.dict es ep/\es.toList=xs.map (entryOfKey (U6 (c_ P w)))/\(xs.map (·.1)).Nodup
 | .set S n=>h.SetOf (ZP P w) a S n
 | .ins C dx fs=>H dx=some (.own a)/\fs.length<=1000/\dx≠a/\h.get? a=some (PySem.W.instObj C dx)/\
   ∃mA,h.Ns1 dx mA/\(∀f,jd (fs.lookup f) (mA f))/\PySem.Within mA (fs.map (·.1))
 | .own _=>∃o,h.get? a=some o
 | .xd fs=>∃mA,h.Ns1 a mA/\∀f,jd (fs.lookup f) (mA f)
 | .rng lo hi=>∃t u v,h.get? a=some {cls:=.type "range",data:=.fields #[.int lo t,.int hi u,.int 1 v]}
 | .frz o u=>h.get? a=some o/\bF H h a u
 | .tbl ps=>h.get? a=some {cls:=.none,data:=.fields ps}
 | .met f x=>h.get? a=some (V6 (.ref f) (.ref x))
 | .ext φ=>φ h/\(∃o,h.get? a=some o)/\∀h1 h2:ZF,φ h1->(∀o,h1.get? a=some o->h2.get? a=some o)->φ h2
noncomputable def HOk(H:Hp)(h:ZF):Prop:=∀a o,H a=some o->bF P w H h a o
end
section
variable{P:Zv}{w:Zl}{H H':Hp}{h h':ZF}{a:Addr}{o:HO}
theorem bF.lt(x:bF P w H h a o):a<h.objs.size:=by
 cases o with
 |lst xs=>obtain⟨_,_,_,_,e⟩:=x;exact Z_ e
 |tup xs=>obtain⟨_,_,_,p⟩:=x;exact p.lt
 |dK D'=>obtain⟨_,_,_,_,o,_,_,e,_⟩:=x;exact Z_ e
 |dT D'=>obtain⟨_,_,_,_,o,_,_,e,_⟩:=x;exact Z_ e
 |set S n=>obtain⟨o,_,_,_,e,_⟩:=x;exact Z_ e
 |ins C dx fs=>obtain⟨_,_,_,e,_⟩:=x;exact Z_ e
 |own y=>obtain⟨_,e⟩:=x;exact Z_ e
 |xd fs=>obtain⟨_,⟨_,_,_,e,_⟩,_⟩:=x;exact Z_ e
 |rng lo hi=>obtain⟨_,_,_,e⟩:=x;exact Z_ e
 |frz ob u=>obtain⟨e,_⟩:=x;exact Z_ e
 |tbl ps=>exact Z_ (show h.get? a=some _ from x)
 |met f y=>exact Z_ (show h.get? a=some _ from x)
 |ext φ=>obtain⟨_,⟨_,e⟩,_⟩:=x;exact Z_ e
theorem Paired.mapP{α β:Type}{F G:α->β->Prop}:∀{l₁:List α} {l₂:List β},Paired F l₁ l₂->(∀a b,F a b->G a b)->Paired G l₁ l₂
 |_,_,.nil,_=>.nil
 |_,_,.cons r t,f=>.cons (f _ _ r) (Paired.mapP t f)
theorem bF.stay(x:bF P w H h a o)(k:∀b u,(b=a\/H b=some (.own a))->h.get? b=some u->h'.get? b=some u)
  (ho:∀b,H b=some (.own a)->H' b=some (.own a))(ht:∀b xs,H b=some (.tup xs)->H' b=some (.tup xs)):bF P w H' h' a o:=by
 induction o with
 |lst xs=>obtain⟨z,C',n,r,e⟩:=x;exact⟨z,C',n,r,k _ _ (.inl rfl) e⟩
 |tup xs=>obtain⟨z,C',r,ob,e,c⟩:=x;exact⟨z,C',r,ob,k _ _ (.inl rfl) e,c⟩
 |dK D'=>obtain⟨z,y,vs,r,ob,es,ep,e,c⟩:=x;exact⟨z,y,vs,r,ob,es,ep,k _ _ (.inl rfl) e,c⟩
 |dT D'=>
  obtain⟨z,y,xs,r,ob,es,ep,e,c⟩:=x;exact⟨z,y,xs,Paired.mapP r fun p q z=>⟨z.1,ht _ _ z.2.1,z.2.2⟩,ob,es,ep,k _ _ (.inl rfl) e,c⟩
 |set S n=>obtain⟨ob,es,ep,t,e,c⟩:=x;exact⟨ob,es,ep,t,k _ _ (.inl rfl) e,c⟩
 |ins C dx fs=>
  obtain⟨d,z,ne,e,mA,⟨od,es,ep,e2,c⟩,r⟩:=x;exact⟨ho _ d,z,ne,k _ _ (.inl rfl) e,mA,⟨od,es,ep,k _ _ (.inr d) e2,c⟩,r⟩
 |own y=>obtain⟨ob,e⟩:=x;exact⟨ob,k _ _ (.inl rfl) e⟩
 |xd fs=>obtain⟨mA,⟨od,es,ep,e,c⟩,r⟩:=x;exact⟨mA,⟨od,es,ep,k _ _ (.inl rfl) e,c⟩,r⟩
 |rng lo hi=>obtain⟨t,u,v,e⟩:=x;exact⟨t,u,v,k _ _ (.inl rfl) e⟩
 |frz ob u ih=>obtain⟨e,q⟩:=x;exact⟨k _ _ (.inl rfl) e,ih q⟩
 |tbl ps=>
  have e:h.get? a=some {cls:=.none,data:=.fields ps}:=x;show h'.get? a=some {cls:=.none,data:=.fields ps};exact k a _ (.inl rfl) e
 |met f y=>
  have e:h.get? a=some (V6 (.ref f) (.ref y)):=x;show h'.get? a=some (V6 (.ref f) (.ref y));exact k a _ (.inl rfl) e
 |ext φ=>obtain⟨p,⟨o,e⟩,st⟩:=x;exact⟨st _ _ p fun o q=>k _ _ (.inl rfl) q,⟨o,k _ _ (.inl rfl) e⟩,st⟩
theorem HOk.lt(x:HOk P w H h)(e:H a=some o):a<h.objs.size:=(x a o e).lt
theorem HOk.fresh(x:HOk P w H h)(e:h.objs.size<=a):H a=none:=by
 cases q:H a with
 |none=>rfl
 |some u=>exact absurd (Nat.lt_of_lt_of_le (x.lt q) e) (Nat.lt_irrefl _)
theorem HOk.kept(x:HOk P w H h)(k:∀b u,h.get? b=some u->h'.get? b=some u):HOk P w H h':=fun a o e=>
 (x a o e).stay (fun b u _ q=>k b u q) (fun _ q=>q) fun _ _ q=>q
theorem HOk.laid(x:HOk P w H h)(k:∀b u,h.get? b=some u->h'.get? b=some u)(hp:h.objs.size<=a)(new:bF P w (upd H a o) h' a o):HOk P w (upd H a o) h':=fun b u e=>by
 have hn:=x.fresh hp;by_cases hb:b=a
 ·subst hb;rw[aj]at e;cases e;exact new
 ·rw[aG hb]at e;exact (x b u e).stay (fun c v _ q=>k c v q) (fun c q=>by rw[aG (a9 q hn)];exact q) fun c xs q=>by rw[aG (a9 q hn)];exact q
end
noncomputable def Rd(H:Hp)(a:Addr)(u:HO):Prop:=H a=some u\/∃o,H a=some (.frz o u)
theorem Rd.ok{P:Zv}{w:Zl}{H:Hp}{h:ZF}{a:Addr}{u:HO}(r:Rd H a u)(x:HOk P w H h):bF P w H h a u:=by
 rcases r with r|⟨o,r⟩
 ·exact x a u r
 ·obtain⟨_,q⟩:=x a _ r;exact q
noncomputable def Mut:Option HO->Prop
 |some (.lst _)=>True
 |some (.dK _)=>True
 |some (.dT _)=>True
 |some (.set _ _)=>True
 |some (.ins _ _ _)=>True
 |some (.ext _)=>True
 |_=>False
section
variable{P:Zv}{w:Zl}{H:Hp}{h h':ZF}{x e:Addr}{o':HO}
theorem HOk.write(ok:HOk P w H h)(mu:Mut (H x))(he:e=x\/H e=some (.own x))(k:∀b u,b≠e->h.get? b=some u->h'.get? b=some u)(FK:∃u,h'.get? e=some u)
  (new:bF P w (upd H x o') h' x o'):HOk P w (upd H x o') h':=fun b u q=>by
 have nown:∀c y,H c=some (.own y)->c≠x:=fun c y r z=>by subst z;rw[r]at mu;exact mu
 have ntup:∀c xs,H c=some (.tup xs)->c≠x:=fun c xs r z=>by subst z;rw[r]at mu;exact mu
 by_cases hb:b=x
 ·subst hb;rw[aj]at q;cases q;exact new
 ·rw[aG hb]at q;by_cases hbe:b=e
  ·have q':H b=some (.own x):=by
    rcases he with z|z
    ·exact absurd (hbe.trans z) hb
    ·rw[hbe];exact z
   rw[q]at q';cases q';obtain⟨v,hv⟩:=FK;exact⟨v,by rw[hbe];exact hv⟩
  ·refine (ok b u q).stay (fun c v hc r=>k c v ?_ r) (fun c r=>by rw[aG (nown c b r)];exact r) fun c xs r=>by rw[aG (ntup c xs r)];exact r
   rcases hc with rfl|hc
   ·exact hbe
   ·rintro rfl;rcases he with z|z
    ·exact nown c b hc z
    ·rw[hc]at z;cases z;exact hb rfl
end
structure Un(fs ex:List Addr)(H H':Hp)(h h':ZF):Prop where
 keep:∀b o,h.get? b=some o->H b=none->b∉fs->b∉ex->h'.get? b=some o
 slot:∀b o,h.get? b=some o->H b=none->b∈fs->b∉ex->∃sl,h'.get? b=some {o with slots:=sl}
 free:∀b o,h.get? b=some o->H b=none->b∉ex->H' b=none
 there:∀b o,h.get? b=some o->b∉ex->∃o',h'.get? b=some o'
 tups:∀b xs,H b=some (.tup xs)->H' b=some (.tup xs)
 frzs:∀b o u,H b=some (.frz o u)->H' b=some (.frz o u)
 tbls:∀b ps,H b=some (.tbl ps)->∃more,H' b=some (.tbl (ps++more))
section
variable{fs G_ ex FP:List Addr}{H H1 H2:Hp}{h h1 h2 h':ZF}{a x e:Addr}{o:HO}
theorem Un.any(u:Un fs ex H H1 h h1){b:Addr}{ob:Obj}(q:h.get? b=some ob)(n:H b=none)(hx:b∉ex):∃sl,h1.get? b=some {ob with slots:=sl}:=by
 by_cases hb:b∈fs
 ·exact u.slot b ob q n hb hx
 ·exact⟨ob.slots,u.keep b ob q n hb hx⟩
theorem Un.kept(k:∀b u,h.get? b=some u->h'.get? b=some u):Un fs ex H H h h':=
 ⟨fun b ob q _ _ _=>k b ob q,fun b ob q _ _ _=>⟨ob.slots,k b ob q⟩,fun _ _ _ n _=>n,fun b ob q _=>⟨ob,k b ob q⟩,fun _ _ q=>q,fun _ _ _ q=>q,fun _ ps q=>⟨#[],by rw[q];simp⟩⟩
theorem Un.refl:Un fs ex H H h h:=Un.kept fun _ _ q=>q
theorem Un.laid(k:∀b u,h.get? b=some u->h'.get? b=some u)(hp:h.objs.size<=a)(hn:H a=none):Un fs ex H (upd H a o) h h' where
 keep:=fun b u q _ _ _=>k b u q
 slot:=fun b u q _ _ _=>⟨u.slots,k b u q⟩
 free:=fun b u q n _=>by rw[aG (Nat.ne_of_lt (Nat.lt_of_lt_of_le (Z_ q) hp))];exact n
 there:=fun b u q _=>⟨u,k b u q⟩
 tups:=fun b xs q=>by rw[aG (a9 q hn)];exact q
 frzs:=fun b u xs q=>by rw[aG (a9 q hn)];exact q
 tbls:=fun b ps q=>⟨#[],by rw[aG (a9 q hn),q];simp⟩
theorem Un.write(mu:Mut (H x))(he:e=x\/H e=some (.own x))(k:∀b u,b≠e->h.get? b=some u->h'.get? b=some u)(FK:∃u,h'.get? e=some u):Un fs ex H (upd H x o) h h':=by
 have hx:∀b,H b=none->b≠x:=fun b n z=>by subst z;rw[n]at mu;exact mu
 have hb:∀b,H b=none->b≠e:=fun b n z=>by
  subst z;rcases he with r|r
  ·exact hx b n r
  ·rw[n]at r;cases r
 have hm:∀b u,H b=some u->¬Mut (some u)->b≠x:=fun b u q nm z=>by subst z;rw[q]at mu;exact nm mu
 refine⟨fun b u q n _ _=>k b u (hb b n) q,fun b u q n _ _=>⟨u.slots,k b u (hb b n) q⟩,fun b u q n _=>by rw[aG (hx b n)];exact n,fun b u q _=>?_,
  fun b xs q=>by rw[aG (hm b _ q fun z=>z)];exact q,fun b u xs q=>by rw[aG (hm b _ q fun z=>z)];exact q,fun b ps q=>⟨#[],by rw[aG (hm b _ q fun z=>z),q];simp⟩⟩
 by_cases hbe:b=e
 ·subst hbe;exact FK
 ·exact⟨u,k b u hbe q⟩
end
noncomputable def trk(h:ZF)(H:Hp):List Addr:=(Z4 h.objs.size).filter fun a=>(H a).isSome
noncomputable def jH(h:ZF)(H:Hp):ZF:=PySem.W.hideAll h (trk h H)
theorem xm(h:ZF)(H:Hp):(jH h H).objs.size=h.objs.size:=PySem.W.hideAll_size _ _
theorem zP{h:ZF}{H:Hp}{b:Addr}{o:Obj}(e:h.get? b=some o)(n:H b=none):(jH h H).get? b=some o:=
 PySem.W.hideAll_get _ e fun hm=>by
  have q:(H b).isSome=true:=(ZI.mp hm).2;rw[n]at q;simp at q
theorem A6{h:ZF}{H:Hp}{b:Addr}{o:Obj}(e:(jH h H).get? b=some o):h.get? b=some o/\H b=none:=by
 have e':h.get? b=some o:=PySem.W.of_hideAll (trk h H) e;refine⟨e',?_⟩;cases q:H b with
 |none=>rfl
 |some x=>
  have hm:b∈trk h H:=ZI.mpr ⟨Zy.mpr (Z_ e'),by simp[q]⟩
  have z:(jH h H).get? b=none:=PySem.W.hideAll_none (trk h H) hm;rw[z]at e;cases e
end L2
namespace L2
open PySem PySem.Spec PyProof.Rows
structure Mod(K:Z3)(mg:Str->Option Value)(base:ZF):Prop where
 kin:K.In base
 glob:base.Ns ZZ mg
 blt:∃mb,base.Ns builtinsNs mb/\∀x:Str,x ≠ "__name__"->mb x=bootBuiltins x
 nolimit:base.NoLimit
structure Cx where
 prog:Zv
 w:Zl
 K:Z3
 mg:Str->Option Value
 base:ZF
 A:ZK
 N:List Str
 s₀:Shared
 H₀:Hp
 env:Env
 outer:List Env
 stack:List Env
 ex:List Addr
 fn:Str->Bool
 calm:Bool
 pn:List (Addr×Obj)
 xe:Value->Shared->Prop
noncomputable def frs(l:List Env):List Addr:=l.filterMap (·.frame)
noncomputable abbrev Cx.fs(X:Cx):List Addr:=frs X.outer
noncomputable def Vis(sc:XQ)(x:Str):Prop:=sc.names.lookup x=some .local\/sc.names.lookup x=some .cell\/sc.names.lookup x=some .free
noncomputable def Loc(sc:XQ)(x:Str):Prop:=sc.names.lookup x=some .local\/sc.names.lookup x=some .cell
noncomputable def Look(env:Env)(h:ZF)(m:Str->Option Value)(x:Str)(u:Value):Prop:=
 (env.kindOf x=some .local/\m x=some u)\/((env.kindOf x=some .cell\/env.kindOf x=some .free)/\∃c,env.cells.lookup x=some c/\h.IsCell c (some u))
structure Cx.Ok(X:Cx):Prop where
 mod:Mod X.K X.mg X.base
 kind:X.env.scope.kind=.function
 glob:X.env.globals=ZZ
 blt:X.env.builtins=builtinsNs
 above:X.s₀.heap.objs.size<=X.env.locals
 inj:∀x y c,X.env.cells.lookup x=some c->X.env.cells.lookup y=some c->x=y
 has:∀x,(X.env.kindOf x=some .cell\/X.env.kindOf x=some .free)->∃c,X.env.cells.lookup x=some c
 cab:∀x c,X.fn x=true->X.env.cells.lookup x=some c->X.s₀.heap.objs.size<=c
 hd:X.calm=true->X.A.handled=none
 frames:X.A.frames=some X.stack
 stk:X.stack=X.outer\/(X.stack=X.env::X.outer/\X.env.frame=some X.env.locals)
 exf:∀b∈X.ex,b≠X.env.locals/\∀x c,X.env.cells.lookup x=some c->c≠b
 bs:∀b o,X.base.get? b=some o->X.s₀.heap.get? b=some o/\X.H₀ b=none
 bsz:X.base.objs.size<=X.s₀.heap.objs.size
 noex:∀b o,X.base.get? b=some o->b∉X.ex
 exfs:∀b∈X.ex,b∉X.fs
 funs:X.s₀.heap.FunFrames X.base X.outer
 frf:∀b∈X.fs,X.H₀ b=none
structure Inv(X:Cx)(aa:List (Addr×Obj))(σ:List (Option V))(H:Hp)(s:Shared):Prop where
 ok:X.Ok
 os:s.os=X.s₀.os
 bare:Wa s.gens
 base:Un X.fs X.ex X.H₀ H X.s₀.heap s.heap
 loc:∃m,s.heap.Ns X.env.locals m/\∀(i:Nat) (x:Str) (v:V),X.N[i]?=some x->σ[i]?=some (some v)->Vis X.env.scope x->∃u,RelV v u/\Look X.env s.heap m x u
 cell:∀x c,X.env.cells.lookup x=some c->∃v,s.heap.IsCell c v
 free:H X.env.locals=none
 freeC:∀x c,X.env.cells.lookup x=some c->H c=none
 pin:∀p∈X.pn++aa,s.heap.get? p.1=some p.2/\H p.1=none/\p.1≠X.env.locals/\p.1∉X.fs/\∀v,p.2.data≠.cell v
 hok:HOk X.prog X.w H s.heap
 len:σ.length=X.N.length
section
variable{X:Cx}{aa:List (Addr×Obj)}{σ:List (Option V)}{H H':Hp}{s:Shared}{h':ZF}
theorem Cx.Ok.nofr(ok:X.Ok){b:Addr}{o:Obj}(e:X.base.get? b=some o):b∉X.fs:=fun hb=>by
 have:=(ok.funs.mem hb).1
 rw[e]at this;cases this
theorem Inv.bs(I:Inv X aa σ H s):∀b o,X.base.get? b=some o->s.heap.get? b=some o/\H b=none:=fun b o e=>
 ⟨I.base.keep b o (I.ok.bs b o e).1 (I.ok.bs b o e).2 (I.ok.nofr e) (I.ok.noex b o e),I.base.free b o (I.ok.bs b o e).1 (I.ok.bs b o e).2 (I.ok.noex b o e)⟩
theorem Inv.bk(I:Inv X aa σ H s):∀b o,X.base.get? b=some o->s.heap.get? b=some o:=fun b o e=>(I.bs b o e).1
theorem Inv.mod(I:Inv X aa σ H s):Mod X.K X.mg X.base:=I.ok.mod
theorem Inv.kIn(I:Inv X aa σ H s):X.K.In s.heap:=I.ok.mod.kin.keeps I.bk
theorem Inv.lt(I:Inv X aa σ H s):X.env.locals<s.heap.objs.size:=let ⟨_,hn,_⟩:=I.loc;hn.lt
theorem Inv.sz(I:Inv X aa σ H s):X.s₀.heap.objs.size<=s.heap.objs.size:=Nat.le_trans I.ok.above (Nat.le_of_lt I.lt)
theorem Inv.nofs(I:Inv X aa σ H s){a:Addr}(h:s.heap.objs.size<=a):a∉X.fs:=fun hb=>by
 obtain⟨_,o,ho,_⟩:=I.ok.funs.mem hb;exact absurd (Nat.lt_of_lt_of_le (Z_ ho) (Nat.le_trans I.sz h)) (Nat.lt_irrefl _)
theorem Inv.cne(I:Inv X aa σ H s):∀x c,X.env.cells.lookup x=some c->c≠X.env.locals:=fun x c e z=>by
 obtain⟨v,o,ho,hd⟩:=I.cell x c e;obtain⟨m,⟨o',es,ep,EB,hd',_⟩,_⟩:=I.loc;rw[z,EB]at ho;cases ho;rw[hd']at hd;cases hd
theorem Inv.funs(I:Inv X aa σ H s):s.heap.FunFrames X.base X.outer:=by
 have all:∀(l:List Env),(∀b∈frs l,b∈X.fs)->X.s₀.heap.FunFrames X.base l->s.heap.FunFrames X.base l:=by
  intro l
  induction l with
  |nil=>intro _ _;trivial
  |cons env r ih=>
   intro hs hl;obtain⟨hk,⟨L,o,hf,hn,ho,hd⟩,hr⟩:=hl;have hL:L∈X.fs:=hs L (by unfold frs;rw[Xe,hf];exact Za)
   obtain⟨sl,e⟩:=I.base.slot L o ho (I.ok.frf L hL) hL fun z=>I.ok.exfs L z hL;exact⟨hk,⟨L,_,hf,hn,e,hd⟩,ih (fun b hb=>hs b (by unfold frs;rw[Xe,hf];exact Zo _ hb)) hr⟩
 exact all X.outer (fun _ hb=>hb) I.ok.funs
theorem Inv.stack(I:Inv X aa σ H s):s.heap.FunFrames X.base X.stack:=by
 rcases I.ok.stk with e|⟨e,hf⟩
 ·rw[e];exact I.funs
 ·rw[e];obtain⟨m,hn,_⟩:=I.loc;refine .cons (by rw[I.ok.kind];decide) hf hn ?_ I.funs
  exact Heap.get?_none_of_le (Nat.le_trans I.ok.bsz I.ok.above)
theorem Inv.stkSub(I:Inv X aa σ H s):∀b∈frs X.stack,b∈X.env.locals::X.fs:=fun b hb=>by
 rcases I.ok.stk with e|⟨e,hf⟩
 ·rw[e]at hb;exact Zo _ hb
 ·rw[e]at hb;unfold frs at hb;rw[Xe,hf]at hb;exact hb
theorem Inv.stkFree(I:Inv X aa σ H s):∀b∈frs X.stack,H b=none:=fun b hb=>by
 rcases Zz.mp (I.stkSub b hb) with e|hb
 ·rw[e];exact I.free
 ·obtain⟨_,o,ho,_⟩:=I.ok.funs.mem hb;exact I.base.free b o ho (I.ok.frf b hb) fun z=>I.ok.exfs b z hb
theorem Inv.step{g':Array Wt}{t':Nat}{d':Drawn}{ch:List Addr}(I:Inv X aa σ H s)
  (F7:∀b∈ch,(b∈X.ex\/X.s₀.heap.objs.size<=b)/\b≠X.env.locals/\(∀x c,X.env.cells.lookup x=some c->c≠b)/\∀p∈X.pn++aa,p.1≠b)
  (keep:∀b o,b≠X.env.locals->b∉X.fs->b∉ch->s.heap.get? b=some o->H b=none->h'.get? b=some o)
  (slot:∀b o,b≠X.env.locals->b∈X.fs->b∉ch->s.heap.get? b=some o->H b=none->∃sl,h'.get? b=some {o with slots:=sl})(free:∀b o,b∉ch->s.heap.get? b=some o->H b=none->H' b=none)
  (there:∀b o,b∉ch->s.heap.get? b=some o->∃o',h'.get? b=some o')
  (tups:∀b xs,H b=some (.tup xs)->H' b=some (.tup xs))(frzs:∀b o u,H b=some (.frz o u)->H' b=some (.frz o u))(tbls:∀b ps,H b=some (.tbl ps)->∃more,H' b=some (.tbl (ps++more)))
  (ns:∀m,s.heap.Ns X.env.locals m->h'.Ns X.env.locals m)(hok:HOk X.prog X.w H' h')(hg:Wa g'):
  Inv X aa σ H' {s with heap:=h',gens:=g',drawn:=d',toks:=t'}:=by
 have neL:∀b o,X.s₀.heap.get? b=some o->b≠X.env.locals:=fun b o e=>Nat.ne_of_lt (Nat.lt_of_lt_of_le (Z_ e) I.ok.above);have neC:∀b o,X.s₀.heap.get? b=some o->b∉X.ex->b∉ch:=fun b o e hx hb=>by
  rcases (F7 b hb).1 with z|z
  ·exact hx z
  ·exact absurd (Nat.lt_of_lt_of_le (Z_ e) z) (Nat.lt_irrefl _)
 have cellK:∀x c,X.env.cells.lookup x=some c->∀v,s.heap.IsCell c v->h'.IsCell c v:=fun x c e v ⟨o,ho,hd⟩=>by
  have nch:c∉ch:=fun z=>(F7 c z).2.2.1 x c e rfl;by_cases hc:c∈X.fs
  ·obtain⟨sl,q⟩:=slot c o (I.cne x c e) hc nch ho (I.freeC x c e);exact⟨_,q,hd⟩
  ·exact⟨o,keep c o (I.cne x c e) hc nch ho (I.freeC x c e),hd⟩
 refine⟨I.ok,I.os,hg,⟨fun b o e n hb hx=>?_,fun b o e n hb hx=>?_,fun b o e n hx=>?_,fun b o e hx=>?_,fun b xs e=>tups b xs (I.base.tups b xs e),fun b o xs e=>frzs b o xs (I.base.frzs b o xs e),fun b ps e=>?_⟩,?_,fun x c e=>?_,?_,fun x c e=>?_,fun p hp=>?_,hok,I.len⟩
 ·exact keep b o (neL b o e) hb (neC b o e hx) (I.base.keep b o e n hb hx) (I.base.free b o e n hx)
 ·obtain⟨sl,e1⟩:=I.base.slot b o e n hb hx;obtain⟨sl',e2⟩:=slot b _ (neL b o e) hb (neC b o e hx) e1 (I.base.free b o e n hx);exact⟨sl',e2⟩
 ·obtain⟨o',e1⟩:=I.base.there b o e hx;exact free b o' (neC b o e hx) e1 (I.base.free b o e n hx)
 ·obtain⟨o',e1⟩:=I.base.there b o e hx;exact there b o' (neC b o e hx) e1
 ·obtain⟨m1,e1⟩:=I.base.tbls b ps e;obtain⟨m2,e2⟩:=tbls b _ e1;exact⟨m1++m2,by rw[e2,Ut]⟩
 ·obtain⟨m,hn,hl⟩:=I.loc;refine⟨m,ns m hn,fun i x v e1 e2 e3=>?_⟩;obtain⟨u,r,l⟩:=hl i x v e1 e2 e3;refine⟨u,r,?_⟩;rcases l with l|⟨k,c,e,z⟩
  ·exact .inl l
  ·exact .inr ⟨k,c,e,cellK x c e _ z⟩
 ·obtain⟨v,z⟩:=I.cell x c e;exact⟨v,cellK x c e v z⟩
 ·obtain⟨m,⟨o,_,_,ho,_⟩,_⟩:=I.loc;exact free _ o (fun z=>(F7 _ z).2.1 rfl) ho I.free
 ·obtain⟨v,o,ho,hd⟩:=I.cell x c e;exact free c o (fun z=>(F7 c z).2.2.1 x c e rfl) ho (I.freeC x c e)
 ·obtain⟨e,n,ne,nf,d⟩:=I.pin p hp;have nch:p.1∉ch:=fun z=>(F7 p.1 z).2.2.2 p hp rfl;exact⟨keep p.1 p.2 ne nf nch e n,free p.1 p.2 nch e n,ne,nf,d⟩
theorem Inv.un{t':Nat}(I:Inv X aa σ H s)(u:Un X.fs [] H H' s.heap h')(hok:HOk X.prog X.w H' h'):Inv X aa σ H' {s with heap:=h',toks:=t'}:=by
 obtain⟨m,⟨o,es,ep,ho,r⟩,_⟩:=id I.loc;obtain⟨sl,hL⟩:=u.any ho I.free (by simp)
 exact I.step (g':=s.gens) (d':=s.drawn) (ch:=[]) (fun _ z=>nomatch z) (fun b o _ hb _ e n=>u.keep b o e n hb (by simp)) (fun b o _ hb _ e n=>u.slot b o e n hb (by simp)) (fun b o _ e n=>u.free b o e n (by simp)) (fun b o _ e=>u.there b o e (by simp)) u.tups u.frzs u.tbls (fun m' hm=>by
  obtain⟨o',Es,ep',EB,r'⟩:=hm;rw[ho]at EB;cases EB;exact⟨_,Es,ep',hL,r'⟩) hok I.bare
theorem Inv.call{g':Array Wt}{t':Nat}{d':Drawn}{ch:List Addr}(I:Inv X aa σ H s)(u:Un (frs X.stack) ch H H' s.heap h')(hok:HOk X.prog X.w H' h')(hg:Wa g')
  (F7:∀b∈ch,(b∈X.ex\/X.s₀.heap.objs.size<=b)/\b≠X.env.locals/\(∀x c,X.env.cells.lookup x=some c->c≠b)/\∀p∈X.pn++aa,p.1≠b):
  Inv X aa σ H' {s with heap:=h',gens:=g',drawn:=d',toks:=t'}:=by
 obtain⟨m,⟨o,es,ep,ho,r⟩,_⟩:=id I.loc;obtain⟨sl,hL⟩:=u.any ho I.free fun z=>(F7 _ z).2.1 rfl;exact I.step (ch:=ch) F7 (fun b o hL hb hc e n=>u.keep b o e n (fun z=>(Zz.mp (I.stkSub b z)).elim hL hb) hc) (fun b o _ _ hc e n=>u.any e n hc) (fun b o hc e n=>u.free b o e n hc) (fun b o hc e=>u.there b o e hc) u.tups u.frzs u.tbls (fun m' hm=>by
  obtain⟨o',Es,ep',EB,r'⟩:=hm;rw[ho]at EB;cases EB;exact⟨_,Es,ep',hL,r'⟩) hok hg
theorem Inv.turned{t':Nat}{it:Addr}(I:Inv X aa σ H s)(k:∀b o,b≠it->s.heap.get? b=some o->h'.get? b=some o)(hn:H it=none)(hL:it≠X.env.locals)
  (h1:it∈X.ex\/X.s₀.heap.objs.size<=it)(h2:∀x c,X.env.cells.lookup x=some c->c≠it)(h3:∀p∈X.pn++aa,p.1≠it):Inv X aa σ H {s with heap:=h',toks:=t'}:=by
 have nit:∀b u,H b=some u->b≠it:=fun b u e z=>by rw[z,hn]at e;cases e
 refine I.step (g':=s.gens) (d':=s.drawn) (ch:=[it]) (fun b hb=>?_) (fun b o _ _ hc e _=>k b o (fun z=>hc (by simp[z])) e) (fun b o _ _ hc e _=>⟨o.slots,k b o (fun z=>hc (by simp[z])) e⟩) (fun _ _ _ _ n=>n)
  (fun b o hc e=>⟨o,k b o (fun z=>hc (by simp[z])) e⟩) (fun _ _ e=>e) (fun _ _ _ e=>e) (fun b ps e=>⟨#[],by rw[e];simp⟩) (fun m hm=>?_) (fun b u e=>?_) I.bare
 ·have e:b=it:=by simpa using hb
  subst e;exact⟨h1,hL,h2,h3⟩
 ·obtain⟨o,es,ep,ho,r⟩:=hm;exact⟨o,es,ep,k _ o (Ne.symm hL) ho,r⟩
 ·refine (I.hok b u e).stay (fun c v hc q=>k c v ?_ q) (fun _ q=>q) fun _ _ q=>q;rcases hc with z|z
  ·rw[z];exact nit b u e
  ·exact nit c _ z
theorem Inv.tok(I:Inv X aa σ H s)(t:Nat):Inv X aa σ H {s with toks:=t}:=I.un (h':=s.heap) (t':=t) Un.refl I.hok
theorem Inv.kept{t':Nat}(I:Inv X aa σ H s)(k:∀b u,s.heap.get? b=some u->h'.get? b=some u):Inv X aa σ H {s with heap:=h',toks:=t'}:=I.un (Un.kept k) (I.hok.kept k)
theorem Inv.laid{a:Addr}{o:HO}{t':Nat}(I:Inv X aa σ H s)(k:∀b u,s.heap.get? b=some u->h'.get? b=some u)(hp:s.heap.objs.size<=a)(new:bF X.prog X.w (upd H a o) h' a o):
  Inv X aa σ (upd H a o) {s with heap:=h',toks:=t'}:=I.un (Un.laid k hp (I.hok.fresh hp)) (I.hok.laid k hp new)
theorem Inv.write{x e:Addr}{o:HO}{t':Nat}(I:Inv X aa σ H s)(mu:Mut (H x))(he:e=x\/H e=some (.own x))(k:∀b u,b≠e->s.heap.get? b=some u->h'.get? b=some u)(FK:∃u,h'.get? e=some u)
  (new:bF X.prog X.w (upd H x o) h' x o):Inv X aa σ (upd H x o) {s with heap:=h',toks:=t'}:=I.un (Un.write mu he k FK) (I.hok.write mu he k FK new)
theorem Inv.weak{σ':List (Option V)}(I:Inv X aa σ H s)(hl:σ'.length=σ.length)(w:∀(i:Nat) v,σ'[i]?=some (some v)->σ[i]?=some (some v)):Inv X aa σ' H s:=
 ⟨I.ok,I.os,I.bare,I.base,let ⟨m,hn,hl'⟩:=I.loc;⟨m,hn,fun i x v e1 e2 e3=>hl' i x v e1 (w i v e2) e3⟩,I.cell,I.free,I.freeC,I.pin,I.hok,hl.trans I.len⟩
theorem Inv.pins_of{FE:List (Addr×Obj)}(I:Inv X aa σ H s)(h:∀p∈FE,s.heap.get? p.1=some p.2/\H p.1=none/\p.1≠X.env.locals/\p.1∉X.fs/\∀v,p.2.data≠.cell v):Inv X FE σ H s:=
 ⟨I.ok,I.os,I.bare,I.base,I.loc,I.cell,I.free,I.freeC,fun p hp=>(ZE.mp hp).elim (fun z=>I.pin p (XT _ z)) (h p),I.hok,I.len⟩
theorem lP{N:List Str}(hN:N.Nodup){i j:Nat}{x:Str}(a:N[i]?=some x)(b:N[j]?=some x):i=j:=by
 obtain⟨h1,e1⟩:=Zh.mp a;obtain⟨h2,e2⟩:=Zh.mp b;exact (List.getElem_inj hN).mp (e1.trans e2.symm)
theorem xC{M:UR}{A:ZK}{E:Value->Shared->Prop}{i:Nat}{x:Str}{v:V}{u:Value}{Q:Unit->Shared->Prop}(I:Inv X aa σ H s)(hN:X.N.Nodup)(hi:X.N[i]?=some x)(hx:Loc X.env.scope x)(r:RelV v u)
  (h:∀s',Inv X aa (σ.set i (some v)) H s'->(∃a,X9 a s.heap s'.heap/\(a=X.env.locals\/X.env.cells.lookup x=some a))->Q () s')(hf:X.fn x=true\/X.env.scope.names.lookup x=some .local:=by first|exact .inl rfl|exact .inr rfl|assumption):Zq M A (storeName X.env x u) Q E s:=by
 obtain⟨m,hn,hl⟩:=id I.loc;have hcls:(X.env.scope.kind==.class||(X.env.scope.kind==.module&&X.env.locals != X.env.globals))=false:=by rw[I.ok.kind];rfl
 have hiσ:i<σ.length:=by rw[I.len];exact (Zh.mp hi).1
 have cne:=I.cne;have tracked:∀{a:Addr} {h':ZF},(∃o,s.heap.get? a=some o/\H a=none)->X9 a s.heap h'->HOk X.prog X.w H h':=fun {a h'} ha hs b ob e=>by
  obtain⟨_,_,hfree⟩:=ha;refine (I.hok b ob e).stay (fun c w' hc q=>(hs.2 c ?_).trans q) (fun _ q=>q) fun _ _ q=>q;rintro rfl;rcases hc with rfl|hc
  ·rw[hfree]at e;cases e
  ·rw[hfree]at hc;cases hc
 rcases hx with hk|hk
 ·refine wpAny_storeName_local hk hn (fun h' hn' hs=>?_) hcls;obtain⟨oL,_,_,hoL,_⟩:=id hn;refine h _ ⟨I.ok,I.os,I.bare,⟨fun b o e n hb hx=>?_,fun b o e n hb hx=>?_,I.base.free,fun b o e hx=>?_,I.base.tups,I.base.frzs,I.base.tbls⟩,⟨_,hn',fun j y v' e1 e2 e3=>?_⟩,fun y c e=>?_,I.free,I.freeC,fun p hp=>?_,tracked ⟨oL,hoL,I.free⟩ hs,by simpa using I.len⟩ ⟨_,hs,.inl rfl⟩
  ·exact (hs.2 b (Nat.ne_of_lt (Nat.lt_of_lt_of_le (Z_ e) I.ok.above))).trans (I.base.keep b o e n hb hx)
  ·obtain⟨sl,e1⟩:=I.base.slot b o e n hb hx;exact⟨sl,(hs.2 b (Nat.ne_of_lt (Nat.lt_of_lt_of_le (Z_ e) I.ok.above))).trans e1⟩
  ·obtain⟨o',e1⟩:=I.base.there b o e hx;exact⟨o',(hs.2 b (Nat.ne_of_lt (Nat.lt_of_lt_of_le (Z_ e) I.ok.above))).trans e1⟩
  ·by_cases hj:j=i
   ·subst hj;rw[hi]at e1;cases e1;rw[Ws hiσ]at e2;cases e2;exact⟨u,r,.inl ⟨hk,by simp⟩⟩
   ·rw[Xo (Ne.symm hj)]at e2;obtain⟨u',r',q⟩:=hl j y v' e1 e2 e3;refine⟨u',r',?_⟩;rcases q with ⟨k,e⟩|⟨k,c,e,z⟩
    ·refine .inl ⟨k,?_⟩
     have:y≠x:=fun e=>hj (lP hN e1 (e ▸ hi))
     simp[this,e]
    ·exact .inr ⟨k,c,e,z.sameBut hs (cne y c e)⟩
  ·obtain⟨w',z⟩:=I.cell y c e;exact⟨w',z.sameBut hs (cne y c e)⟩
  ·obtain⟨e,n,ne,nf,d⟩:=I.pin p hp;exact⟨(hs.2 p.1 ne).trans e,n,ne,nf,d⟩
 ·have FN:X.fn x=true:=by
   rcases hf with z|z
   ·exact z
   ·rw[z]at hk;cases hk
  obtain⟨c,hc⟩:=I.ok.has x (.inl hk);obtain⟨w',z⟩:=I.cell x c hc;refine wpAny_storeName_cell I.ok.kind hk hc z (fun h' hc' hs=>?_);obtain⟨oc,hoc,hocd⟩:=id z;refine h {s with heap:=h'} ⟨I.ok,I.os,I.bare,⟨fun b o e n hb hx=>?_,fun b o e n hb hx=>?_,I.base.free,fun b o e hx=>?_,I.base.tups,I.base.frzs,I.base.tbls⟩,⟨m,hn.sameBut hs (Ne.symm (cne x c hc)),fun j y v' e1 e2 e3=>?_⟩,fun y c' e=>?_,I.free,I.freeC,fun p hp=>?_,tracked ⟨oc,hoc,I.freeC x c hc⟩ hs,by simpa using I.len⟩ ⟨c,hs,.inr hc⟩
  ·exact (hs.2 b (Nat.ne_of_lt (Nat.lt_of_lt_of_le (Z_ e) (I.ok.cab x c FN hc)))).trans (I.base.keep b o e n hb hx)
  ·obtain⟨sl,e1⟩:=I.base.slot b o e n hb hx;exact⟨sl,(hs.2 b (Nat.ne_of_lt (Nat.lt_of_lt_of_le (Z_ e) (I.ok.cab x c FN hc)))).trans e1⟩
  ·obtain⟨o',e1⟩:=I.base.there b o e hx;exact⟨o',(hs.2 b (Nat.ne_of_lt (Nat.lt_of_lt_of_le (Z_ e) (I.ok.cab x c FN hc)))).trans e1⟩
  ·by_cases hj:j=i
   ·subst hj;rw[hi]at e1;cases e1;rw[Ws hiσ]at e2;cases e2;exact⟨u,r,.inr ⟨.inl hk,c,hc,hc'⟩⟩
   ·rw[Xo (Ne.symm hj)]at e2;obtain⟨u',r',q⟩:=hl j y v' e1 e2 e3;refine⟨u',r',?_⟩;rcases q with q|⟨k,c',e,z'⟩
    ·exact .inl q
    ·refine .inr ⟨k,c',e,z'.sameBut hs ?_⟩;rintro rfl;exact hj (lP hN e1 (I.ok.inj _ _ _ e hc ▸ hi))
  ·by_cases hcc:c'=c
   ·subst hcc;exact⟨_,hc'⟩
   ·obtain⟨w2,z2⟩:=I.cell y c' e;exact⟨w2,z2.sameBut hs hcc⟩
  ·obtain⟨e,n,ne,nf,d⟩:=I.pin p hp;refine⟨(hs.2 p.1 ?_).trans e,n,ne,nf,d⟩;intro q;rw[q,hoc]at e;have q':oc=p.2:=ZH e;exact d w' (by rw[<-q'];exact hocd)
theorem jI{M:UR}{A:ZK}{E:Value->Shared->Prop}{i:Nat}{x:Str}{v:V}{u:Value}{Q:Unit->Shared->Prop}(I:Inv X aa σ H s)(hN:X.N.Nodup)(hi:X.N[i]?=some x)(hx:Loc X.env.scope x)(r:RelV v u)
  (h:∀s',Inv X aa (σ.set i (some v)) H s'->Q () s')(hf:X.fn x=true\/X.env.scope.names.lookup x=some .local:=by first|exact .inl rfl|exact .inr rfl|assumption):Zq M A (storeName X.env x u) Q E s:=
 xC I hN hi hx r (fun s' I' _=>h s' I') hf
theorem Inv.call'{s':Shared}{ch:List Addr}(I:Inv X aa σ H s)(ho:s'.os=s.os)(u:Un (frs X.stack) ch H H' s.heap s'.heap)(hok:HOk X.prog X.w H' s'.heap)(hg:Wa s'.gens)
  (F7:∀b∈ch,(b∈X.ex\/X.s₀.heap.objs.size<=b)/\b≠X.env.locals/\(∀x c,X.env.cells.lookup x=some c->c≠b)/\∀p∈X.pn++aa,p.1≠b):Inv X aa σ H' s':=by
 obtain⟨h',g',d',t',o'⟩:=s';have e:o'=s.os:=ho;subst e;exact I.call (g':=g') (t':=t') (d':=d') u hok hg F7
end
noncomputable abbrev XK:=Value->Option Addr->Hp->Prop
noncomputable abbrev St:=List (Option V)
noncomputable abbrev VK:=V->Hp->Prop
noncomputable abbrev TE:=St->Hp->VK->Prop
noncomputable abbrev TT:=St->Hp->(Bool->Hp->Prop)->Prop
noncomputable abbrev TA:=St->Hp->(List V->Hp->Prop)->Prop
structure g9 where
 nx:St->Hp->Prop
 rt:VK
 bk:St->Hp->Prop:=fun _ _=>False
 ct:St->Hp->Prop:=fun _ _=>False
noncomputable abbrev TS:=g9->St->Hp->Prop
noncomputable def EP(X:Cx)(aa:List (Addr×Obj))(σ:St)(Q:VK)(u:Value)(s':Shared):Prop:=∃v H',Inv X aa σ H' s'/\RelV v u/\Q v H'
noncomputable def TP(X:Cx)(aa:List (Addr×Obj))(σ:St)(Q:Bool->Hp->Prop)(b:Bool)(s':Shared):Prop:=∃H',Inv X aa σ H' s'/\Q b H'
noncomputable def AP(X:Cx)(aa:List (Addr×Obj))(σ:St)(Q:List V->Hp->Prop)(us:List Value)(s':Shared):Prop:=∃vs H',Inv X aa σ H' s'/\aR vs us/\Q vs H'
noncomputable def SP(X:Cx)(aa:List (Addr×Obj))(D:g9)(f:Flow)(s':Shared):Prop:=
 match f with
 | .next=>∃σ' H',Inv X aa σ' H' s'/\D.nx σ' H'
 | .brk=>∃σ' H',Inv X aa σ' H' s'/\D.bk σ' H'
 | .cont=>∃σ' H',Inv X aa σ' H' s'/\D.ct σ' H'
 | .ret u=>∃v σ' H',Inv X aa σ' H' s'/\RelV v u/\D.rt v H'
noncomputable def PE(X:Cx)(e:ZN)(t:TE):Prop:=
 ∀(aa:List (Addr×Obj)) (s:Shared) (σ:St) (H:Hp) (Q:VK),Inv X aa σ H s->t σ H Q->Zq (model X.prog X.w) X.A (eval e X.env) (EP X aa σ Q) X.xe s
noncomputable def PT(X:Cx)(e:ZN)(t:TT):Prop:=
 ∀(aa:List (Addr×Obj)) (s:Shared) (σ:St) (H:Hp) (Q:Bool->Hp->Prop),Inv X aa σ H s->t σ H Q->Zq (model X.prog X.w) X.A (isTrue e X.env (eval e X.env)) (TP X aa σ Q) X.xe s
noncomputable def PW(X:Cx)(e:ZN)(t:TT):Prop:=
 ∀(whole:Sem Value) (aa:List (Addr×Obj)) (s:Shared) (σ:St) (H:Hp) (Q:Bool->Hp->Prop),Inv X aa σ H s->t σ H Q->Zq (model X.prog X.w) X.A (isTrue e X.env whole) (TP X aa σ Q) X.xe s
theorem PW.pt{X:Cx}{e:ZN}{t:TT}(h:PW X e t):PT X e t:=h _
noncomputable def PA(X:Cx)(es:List ZN)(t:TA):Prop:=
 ∀(pos:Pos) (aa:List (Addr×Obj)) (s:Shared) (σ:St) (H:Hp) (Q:List V->Hp->Prop),Inv X aa σ H s->t σ H Q->Zq (model X.prog X.w) X.A (spliced (backTo pos (Zp es X.env))) (AP X aa σ Q) X.xe s
noncomputable def PS(X:Cx)(st:Stmt)(t:TS):Prop:=
 ∀(aa:List (Addr×Obj)) (s:Shared) (σ:St) (H:Hp) (D:g9),Inv X aa σ H s->t D σ H->Zq (model X.prog X.w) X.A (exec st X.env) (SP X aa D) X.xe s
noncomputable def PSs(X:Cx)(st:List Stmt)(t:TS):Prop:=
 ∀(aa:List (Addr×Obj)) (s:Shared) (σ:St) (H:Hp) (D:g9),Inv X aa σ H s->t D σ H->Zq (model X.prog X.w) X.A (execs st X.env) (SP X aa D) X.xe s
theorem thn{α:Type}{t:Sem α}{Q Q':α->Shared->Prop}{M:UR}{A:ZK}{E:Value->Shared->Prop}{s:Shared}(h:Zq M A t Q E s)(hQ:∀a s,Q a s->Q' a s):Zq M A t Q' E s:=Y0 h hQ fun _ _ x=>x
end L2
namespace L2
open PySem PySem.Spec PyProof.Rows
section
variable{X:Cx}
noncomputable def dz(i:Nat):TE:=fun σ H Q=>∃v,σ[i]?=some (some v)/\Q v H
noncomputable def tC(v:V):TE:=fun _ H Q=>Q v H
theorem C_{i:Nat}{x:Str}{pos:Pos}(hN:X.N[i]?=some x)(hv:Vis X.env.scope x)(hd:(x==("__debug__" : Str))=false:=by decide)(F0:(x==("__classdict__" : Str))=false:=by decide):PE X (.Name x pos) (dz i):=by
 intro aa s σ H Q I h;obtain⟨v,e,h⟩:=h;obtain⟨m,hn,hl⟩:=I.loc;obtain⟨u,r,l⟩:=hl i x v hN e hv;have fin:EP X aa σ Q u s:=⟨v,H,I,r,h⟩;rcases l with ⟨hk,hm⟩|⟨hk,c,hc,hcell⟩
 ·exact US (wpAny_loadName_local I.ok.kind hk hn hm fin) hd
 ·rcases hk with hk|hk
  ·exact US (wpAny_loadName_cell I.ok.kind hk hc hcell fin) hd
  ·exact US (wpAny_loadName_free I.ok.kind hk hc hcell fin F0) hd
theorem ad{i j pos}:PE X (.Constant (.int i) j pos) (tC (.int i)):=fun _ _ _ H _ I h=>wpAny_Constant_int ⟨.int i,H,I.tok _,⟨_,rfl⟩,h⟩
theorem eJ{b j pos}:PE X (.Constant (.bool b) j pos) (tC (.bl b)):=fun _ _ _ H _ I h=>Constant_bool ⟨.bl b,H,I,rfl,h⟩
theorem xX{j pos}:PE X (.Constant .none j pos) (tC .non):=fun _ _ _ H _ I h=>Constant_none ⟨.non,H,I,rfl,h⟩
theorem b6{x j pos}:PE X (.Constant (.str x) j pos) (tC (.str x)):=fun _ _ _ H _ I h=>Calls.Constant_str ⟨.str x,H,I.tok _,⟨_,rfl⟩,h⟩
noncomputable def Gl(X:Cx)(x:Str):Prop:=X.env.kindOf x=some .globalImplicit
theorem iq{E:Value->Shared->Prop}{aa:List (Addr×Obj)}{s:Shared}{σ:St}{H:Hp}{x:Str}{u:Value}{pos:Pos}{Q:Value->Shared->Prop}(I:Inv X aa σ H s)(hg:Gl X x)(hm:X.mg x=some u)(h:Q u s)
  (hd:(x==("__debug__" : Str))=false:=by decide):Zq (model X.prog X.w) X.A (eval (.Name x pos) X.env) Q E s:=
 WS I.ok.kind hg (Calls.loadGlobal_global (by rw[I.ok.glob];exact I.mod.glob.keeps I.bk) hm h) hd
theorem fG{E:Value->Shared->Prop}{aa:List (Addr×Obj)}{s:Shared}{σ:St}{H:Hp}{x:Str}{u:Value}{pos:Pos}{Q:Value->Shared->Prop}(I:Inv X aa σ H s)(hg:Gl X x)(hm:X.mg x=none)(hv:bootBuiltins x=some u)(h:Q u s)
  (hn:x ≠ "__name__" :=by decide)(hd:(x==("__debug__" : Str))=false:=by decide):Zq (model X.prog X.w) X.A (eval (.Name x pos) X.env) Q E s:=by
 obtain⟨mb,h1,h2⟩:=I.mod.blt;exact WS I.ok.kind hg (Calls.loadGlobal_builtin (by rw[I.ok.glob];exact I.mod.glob.keeps I.bk) hm (by rw[I.ok.blt];exact h1.keeps I.bk) ((h2 x hn).trans hv) h) hd
theorem io{x:Str}{v:V}{u:Value}{pos:Pos}(hg:Gl X x)(hm:X.mg x=some u)(r:RelV v u)(hd:(x==("__debug__" : Str))=false:=by decide):PE X (.Name x pos) (tC v):=
 fun _ _ _ H _ I h=>iq I hg hm ⟨v,H,I,r,h⟩ hd
theorem Bw{x:Str}{v:V}{u:Value}{pos:Pos}(hg:Gl X x)(hm:X.mg x=none)(hv:bootBuiltins x=some u)(r:RelV v u)(hn:x ≠ "__name__" :=by decide)(hd:(x==("__debug__" : Str))=false:=by decide):PE X (.Name x pos) (tC v):=
 fun _ _ _ H _ I h=>fG I hg hm hv ⟨v,H,I,r,h⟩ hn hd
variable{a b:ZN}{ta tb:TE}{pos:Pos}
noncomputable def tB(t:TE):TT:=fun σ H Q=>t σ H fun x H1=>∃c,x=.bl c/\Q c H1
theorem c7{e:ZN}{t:TE}(h:PE X e t)(he:∀whole,isTrue e X.env whole=(do let v <-whole;standAt e.pos;holding [v] (truthy v)):=by intro _;rfl):PT X e (tB t):=by
 intro aa s σ H Q I hw;refine isTrue_plain (thn (h aa s σ H _ I hw) fun v s1 zz=>?_) (he _);obtain⟨x,H1,I1,r1,q1⟩:=zz;obtain⟨d,rfl,q⟩:=q1;cases r1;exact X1 ⟨H1,I1,q⟩
variable{tA FQ:TT}{af:List ZN}
noncomputable def tAnd(t u:TT):TT:=fun σ H Q=>t σ H fun c H1=>if c=true then u σ H1 Q else Q false H1
noncomputable def tOr(t u:TT):TT:=fun σ H Q=>t σ H fun c H1=>if c=true then Q true H1 else u σ H1 Q
noncomputable def tNot(t:TT):TT:=fun σ H Q=>t σ H fun c H1=>Q (!c) H1
theorem fN(ha:PT X a tA):PW X (.BoolOp .And [a] pos) tA:=by
 intro wh aa s σ H Q I h;refine isTrue_and (thn (ha aa s σ H Q I h) fun c s1 e=>?_);cases c with
 |true=>exact isTrue_and_nil e
 |false=>exact e
theorem iO(ha:PT X a tA):PW X (.BoolOp .Or [a] pos) tA:=by
 intro wh aa s σ H Q I h;refine isTrue_or (thn (ha aa s σ H Q I h) fun c s1 e=>?_);cases c with
 |false=>exact isTrue_or_nil e
 |true=>exact e
theorem gG(ha:PT X a tA)(hb:PW X (.BoolOp .And (b::af) pos) FQ):PW X (.BoolOp .And (a::b::af) pos) (tAnd tA FQ):=by
 intro wh aa s σ H Q I h;refine isTrue_and (thn (ha aa s σ H _ I h) fun c s1 zz=>?_);obtain⟨H1,I1,q1⟩:=zz;cases c with
 |true=>exact hb wh aa s1 σ H1 Q I1 q1
 |false=>exact⟨H1,I1,q1⟩
theorem jX(ha:PT X a tA)(hb:PW X (.BoolOp .Or (b::af) pos) FQ):PW X (.BoolOp .Or (a::b::af) pos) (tOr tA FQ):=by
 intro wh aa s σ H Q I h;refine isTrue_or (thn (ha aa s σ H _ I h) fun c s1 zz=>?_);obtain⟨H1,I1,q1⟩:=zz;cases c with
 |true=>exact⟨H1,I1,q1⟩
 |false=>exact hb wh aa s1 σ H1 Q I1 q1
theorem jw(ha:PT X a tA):PT X (.UnaryOp .Not a pos) (tNot tA):=by
 intro aa s σ H Q I h;exact isTrue_not (ha aa s σ H (fun c H1=>Q (!c) H1) I h)
noncomputable def Ep(ta tb:TE):TE:=fun σ H Q=>ta σ H fun x H1=>∃c,x=.bl c/\if c=true then tb σ H1 Q else Q (.bl false) H1
noncomputable def DQ(ta:TE):TE:=fun σ H Q=>ta σ H fun x H1=>∃c,x=.bl c/\Q (.bl (!c)) H1
theorem rG{op}{t:TE}(h:PE X a t):PE X (.BoolOp op [a] pos) t:=fun aa s σ H Q I hw=>BoolOp_one (h aa s σ H Q I hw)
theorem qP(ha:PE X a ta)(hb:PE X (.BoolOp .And (b::af) pos) tb):PE X (.BoolOp .And (a::b::af) pos) (Ep ta tb):=by
 intro aa s σ H Q I h;refine BoolOp_and (thn (ha aa s σ H _ I h) fun v s1 zz=>?_);obtain⟨x,H1,I1,r1,q1⟩:=zz;obtain⟨c,rfl,q1⟩:=q1;cases r1;refine X1 ?_;cases c with
 |true=>exact hb aa s1 σ H1 Q I1 q1
 |false=>exact⟨.bl false,H1,I1,rfl,q1⟩
theorem qJ(ha:PE X a ta):PE X (.UnaryOp .Not a pos) (DQ ta):=by
 intro aa s σ H Q I h;refine UnaryOp_ (thn (ha aa s σ H _ I h) fun v s1 zz=>?_);obtain⟨x,H1,I1,r1,q1⟩:=zz;obtain⟨c,rfl,q1⟩:=q1;cases r1;exact not_of (X1 ⟨.bl (!c),H1,I1,rfl,q1⟩)
noncomputable def tIf(t:TT)(ta tb:TE):TE:=fun σ H Q=>t σ H fun c H1=>if c=true then ta σ H1 Q else tb σ H1 Q
theorem lR{c:ZN}(hc:PT X c tA)(ha:PE X a ta)(hb:PE X b tb):PE X (.IfExp c a b pos) (tIf tA ta tb):=by
 intro aa s σ H Q I h;refine wpAny_IfExp (thn (hc aa s σ H _ I h) fun d s1 zz=>?_);obtain⟨H1,I1,q1⟩:=zz;cases d with
 |true=>exact ha aa s1 σ H1 Q I1 q1
 |false=>exact hb aa s1 σ H1 Q I1 q1
end
end L2
namespace L2
open PySem PySem.Spec PyProof.Rows
noncomputable def SqL(K:Z3)(H:Hp)(a:Addr)(xs:List V):Prop:=
 Rd H a (.lst xs)\/
  ∃(o:Obj) (C':Array Value) (n:Nat),K.lookup a=some o/\o.cls=.type "list"/\o.dict=none/\o.data=.seq C' n/\C'.size<=sizeLine/\aR xs C'.toList
noncomputable def SqT(K:Z3)(H:Hp)(a:Addr)(xs:List V):Prop:=
 Rd H a (.tup xs)\/
  ∃(o:Obj) (C':Array Value) (n:Nat),K.lookup a=some o/\o.cls=.type "tuple"/\o.data=.seq C' n/\C'.size<=sizeLine/\aR xs C'.toList
noncomputable def absV:Value->Option V
 | .none=>some .non
 | .bool b=>some (.bl b)
 | .int i _=>some (.int i)
 | .str x _=>some (.str x)
 | .bytes b _=>some (.byt b)
 | .float b _=>some (.flt b)
 | .ref a=>some (.ref a)
 | .type n=>some (.ty n)
 |_=>none
theorem RelV.abs{x:V}{u:Value}(r:RelV x u):absV u=some x:=by
 cases x with
 |non=>cases r;rfl
 |bl _=>cases r;rfl
 |int _=>obtain⟨t,rfl⟩:=r;rfl
 |str _=>obtain⟨t,rfl⟩:=r;rfl
 |byt _=>obtain⟨t,rfl⟩:=r;rfl
 |flt _=>obtain⟨t,rfl⟩:=r;rfl
 |ref _=>cases r;rfl
 |ty _=>cases r;rfl
theorem RelV.inj{x y:V}{u:Value}(r:RelV x u)(q:RelV y u):x=y:=ZH (r.abs.symm.trans q.abs)
theorem aR.inj:∀{xs ys:List V} {us:List Value},aR xs us->aR ys us->xs=ys
 |_,_,_,.nil,.nil=>rfl
 |_,_,_,.cons r t,.cons r' t'=>by rw[r.inj r',aR.inj t t']
section
variable{X:Cx}{aa:List (Addr×Obj)}{σ:St}{H:Hp}{s:Shared}{a:Addr}{xs ys:List V}
theorem SqL.of{K:Z3}(h:H a=some (.lst xs)):SqL K H a xs:=.inl (.inl h)
theorem SqT.of{K:Z3}(h:H a=some (.tup xs)):SqT K H a xs:=.inl (.inl h)
theorem Inv.list(I:Inv X aa σ H s)(h:SqL X.K H a xs):∃C':List Value,aR xs C'/\PlainL s.heap a C'.toArray/\xs.length<=sizeLine:=by
 rcases h with h|⟨o,C',n,hk,hc,hd,hs,hz,r⟩
 ·obtain⟨z,C',n,r,e⟩:=h.ok I.hok;exact⟨C',r,⟨_,n,e,rfl,rfl,rfl⟩,z⟩
 ·refine⟨C'.toList,r,⟨o,n,I.kIn a o hk,hc,hd,by simpa using hs⟩,?_⟩
  have e:=r.length;simp only[ZG]at e;lia
theorem Inv.tuple(I:Inv X aa σ H s)(h:SqT X.K H a xs):∃C':List Value,aR xs C'/\IsTup s.heap a C'.toArray/\xs.length<=sizeLine:=by
 rcases h with h|⟨o,C',n,hk,hc,hs,hz,r⟩
 ·obtain⟨z,C',r,p⟩:=h.ok I.hok;exact⟨C',r,p,z⟩
 ·refine⟨C'.toList,r,⟨o,I.kIn a o hk,hc,n,by simpa using hs⟩,?_⟩
  have e:=r.length;simp only[ZG]at e;lia
theorem Inv.list_inj(I:Inv X aa σ H s)(h:SqL X.K H a xs)(h':SqL X.K H a ys):xs=ys:=by
 obtain⟨C',r,⟨o,n,e,_,_,d⟩,_⟩:=I.list h;obtain⟨its',r',⟨o',n',e',_,_,d'⟩,_⟩:=I.list h';rw[e]at e';cases e';rw[d]at d';injection d' with d1 _
 have:C'=its':=by simpa using Y_ TZ d1
 subst this;exact r.inj r'
theorem Inv.tuple_inj(I:Inv X aa σ H s)(h:SqT X.K H a xs)(h':SqT X.K H a ys):xs=ys:=by
 obtain⟨C',r,⟨o,e,_,n,d⟩,_⟩:=I.tuple h;obtain⟨its',r',⟨o',e',_,n',d'⟩,_⟩:=I.tuple h';rw[e]at e';cases e';rw[d]at d';injection d' with d1 _
 have:C'=its':=by simpa using Y_ TZ d1
 subst this;exact r.inj r'
end
noncomputable abbrev Cx.wish(X:Cx)(E:Value->Shared->Prop):Cx:={X with xe:=E}
noncomputable abbrev Cx.nox(X:Cx):Cx:=X.wish fun _ _=>False
theorem Cx.Ok.wish{X:Cx}(ok:X.Ok)(E:Value->Shared->Prop):(X.wish E).Ok:=
 ⟨ok.mod,ok.kind,ok.glob,ok.blt,ok.above,ok.inj,ok.has,ok.cab,ok.hd,ok.frames,ok.stk,ok.exf,ok.bs,ok.bsz,ok.noex,ok.exfs,ok.funs,ok.frf⟩
theorem Cx.Ok.unwish{X:Cx}{E:Value->Shared->Prop}(ok:(X.wish E).Ok):X.Ok:=
 ⟨ok.mod,ok.kind,ok.glob,ok.blt,ok.above,ok.inj,ok.has,ok.cab,ok.hd,ok.frames,ok.stk,ok.exf,ok.bs,ok.bsz,ok.noex,ok.exfs,ok.funs,ok.frf⟩
section
variable{X:Cx}{aa:List (Addr×Obj)}{σ:St}{H:Hp}{s:Shared}{E:Value->Shared->Prop}
theorem Inv.wish(I:Inv X aa σ H s)(E:Value->Shared->Prop):Inv (X.wish E) aa σ H s:=⟨I.ok.wish E,I.os,I.bare,I.base,I.loc,I.cell,I.free,I.freeC,I.pin,I.hok,I.len⟩
theorem Inv.unwish(I:Inv (X.wish E) aa σ H s):Inv X aa σ H s:=⟨I.ok.unwish,I.os,I.bare,I.base,I.loc,I.cell,I.free,I.freeC,I.pin,I.hok,I.len⟩
theorem SP.unwish{D:g9}{f:Flow}{s':Shared}(h:SP (X.wish E) aa D f s'):SP X aa D f s':=by
 cases f with
 |next=>obtain⟨σ',H',I,q⟩:=h;exact⟨σ',H',I.unwish,q⟩
 |brk=>obtain⟨σ',H',I,q⟩:=h;exact⟨σ',H',I.unwish,q⟩
 |cont=>obtain⟨σ',H',I,q⟩:=h;exact⟨σ',H',I.unwish,q⟩
 |ret u=>obtain⟨v,σ',H',I,r,q⟩:=h;exact⟨v,σ',H',I.unwish,r,q⟩
theorem PSs.nox{st:List Stmt}{t:TS}(h:PSs X.nox st t):PSs X st t:=fun aa s σ H D I hw=>
 Y0 (h aa s σ H D (I.wish _) hw) (fun _ _ q=>q.unwish) fun _ _ z=>False.elim z
end
section
variable{X:Cx}{st:Stmt}{af:List Stmt}{t u:TS}{e:ZN}{te:TE}{pos:Pos}
noncomputable def AO:TS:=fun D σ H=>D.nx σ H
noncomputable def tSeq(t u:TS):TS:=fun D σ H=>t {D with nx:=u D} σ H
theorem aL:PSs X [] AO:=fun _ _ σ H _ I h=>XF ⟨σ,H,I,h⟩
theorem aB(h1:PS X st t)(h2:PSs X af u):PSs X (st::af) (tSeq t u):=by
 intro aa s σ H D I h;refine Wh (thn (h1 aa s σ H {D with nx:=u D} I h) fun f s1 q=>?_)
 cases f with
 |next=>
  obtain⟨σ',H',I',q⟩:=q;exact h2 aa s1 σ' H' D I' q
 |ret v=>exact q
 |brk=>exact q
 |cont=>exact q
theorem ap(h1:PS X st t):PSs X [st] t:=by
 intro aa s σ H D I h;refine Wh (thn (h1 aa s σ H D I h) fun f s1 q=>?_);cases f with
 |next=>exact XF q
 |ret v=>exact q
 |brk=>exact q
 |cont=>exact q
theorem Inv.quiet{aa:List (Addr×Obj)}{σ:St}{H:Hp}{s:Shared}(I:Inv X aa σ H s):interactive X.env=false:=by simp[interactive,I.ok.kind]
noncomputable def D6(te:TE):TS:=fun D σ H=>te σ H fun _ H1=>D.nx σ H1
theorem aV(he:PE X e te)(hs:swapsWith e none pos.line X.env=pure false:=by rfl):PS X (.Expr e pos) (D6 te):=by
 intro aa s σ H D I h;exact UT (thn (he aa s σ H _ I h) fun v s1 ⟨x,H1,I1,r1,q1⟩=>⟨σ,H1,I1,q1⟩) I.quiet hs
noncomputable def jJ(te:TE):TS:=fun D σ H=>te σ H D.rt
theorem aC(he:PE X e te):PS X (.Return (some e) pos) (jJ te):=by
 intro aa s σ H D I h;exact wpAny_Return_some (thn (he aa s σ H _ I h) fun v s1 ⟨x,H1,I1,r1,q1⟩=>⟨x,σ,H1,I1,r1,q1⟩)
noncomputable def vN(c:TT)(t u:TS):TS:=fun D σ H=>c σ H fun b H1=>if b=true then t D σ H1 else u D σ H1
theorem aZ{c:ZN}{a b:List Stmt}{tc:TT}(hc:PT X c tc)(ha:PSs X a t)(hb:PSs X b u):PS X (.If c a b pos) (vN tc t u):=by
 intro aa s σ H D I h;refine wpAny_If (thn (hc aa s σ H _ I h) fun d s1 zz=>?_);obtain⟨H1,I1,q1⟩:=zz;cases d with
 |true=>exact ha aa s1 σ H1 D I1 q1
 |false=>exact hb aa s1 σ H1 D I1 q1
noncomputable def DH:TS:=fun _ _ _=>False
theorem bO{sts:List Stmt}:PSs X sts DH:=fun _ _ _ _ _ _ h=>h.elim
end
noncomputable abbrev TG:=V->St->Hp->(St->Hp->Prop)->Prop
noncomputable abbrev TGs:=List V->St->Hp->(St->Hp->Prop)->Prop
noncomputable def PG(X:Cx)(target:ZN)(t:TG):Prop:=
 ∀(aa:List (Addr×Obj)) (s:Shared) (σ:St) (H:Hp) (v:V) (u:Value) (Q:St->Hp->Prop),Inv X aa σ H s->RelV v u->t v σ H Q->
  Zq (model X.prog X.w) X.A (assign target X.env u) (fun _ s'=>∃σ' H',Inv X aa σ' H' s'/\Q σ' H') X.xe s
noncomputable def PGs(X:Cx)(ts:List ZN)(t:TGs):Prop:=
 ∀(aa:List (Addr×Obj)) (s:Shared) (σ:St) (H:Hp) (vs:List V) (us:List Value) (Q:St->Hp->Prop),Inv X aa σ H s->aR vs us->t vs σ H Q->
  Zq (model X.prog X.w) X.A (assignInOrder ((assignEach ts X.env).map (·.2)) us) (fun _ s'=>∃σ' H',Inv X aa σ' H' s'/\Q σ' H') X.xe s
section
variable{X:Cx}{pos:Pos}
noncomputable def dX(i:Nat):TG:=fun v σ H Q=>Q (σ.set i (some v)) H
theorem aM{i:Nat}{x:Str}(hN:X.N.Nodup)(hi:X.N[i]?=some x)(hx:Loc X.env.scope x)(hf:X.fn x=true\/X.env.scope.names.lookup x=some .local:=by first|exact .inl rfl|exact .inr rfl|assumption):PG X (.Name x pos) (dX i):=by
 intro aa s σ H v u Q I r h;exact Ui (jI I hN hi hx r (fun s' I'=>⟨_,H,I',h⟩) hf)
noncomputable def y4:TGs:=fun vs σ H Q=>vs=[]/\Q σ H
noncomputable def ni(t:TG)(u:TGs):TGs:=fun vs σ H Q=>∃v r,vs=v::r/\t v σ H fun σ' H'=>u r σ' H' Q
theorem e8:PGs X [] y4:=by
 intro aa s σ H vs us Q I r h;obtain⟨e,h⟩:=h;subst e;cases r;exact assignInOrder_nil ⟨σ,H,I,h⟩
theorem bw{e:ZN}{es:List ZN}{t:TG}{u:TGs}(h1:PG X e t)(h2:PGs X es u)
  (hs:(assignEach (e::es) X.env).map (·.2)=assign e X.env::(assignEach es X.env).map (·.2):=by rfl):PGs X (e::es) (ni t u):=by
 intro aa s σ H vs us Q I r h;obtain⟨v,vr,e1,h⟩:=h;subst e1;cases r with
 |cons r rr=>
  rw[hs];refine assignInOrder_cons (thn (h1 aa s σ H _ _ _ I r h) fun _ s1 zz=>?_);obtain⟨σ1,H1,I1,q1⟩:=zz;exact h2 aa s1 σ1 H1 _ _ Q I1 rr q1
noncomputable def vE(K:Z3)(n:Nat)(t:TGs):TG:=fun v σ H Q=>∃a xs,v=.ref a/\SqT K H a xs/\xs.length=n/\t xs σ H Q
theorem mV{es:List ZN}{k:Nat}{t:TGs}{n:Nat}(hc:X.calm=true)(h:PGs X es t)
  (hn:(assignEach es X.env).length=n:=by rfl)(EA:(assignEach es X.env).findIdx? (·.1)=none:=by rfl):PG X (.Tuple es k pos) (vE X.K n t):=by
 intro aa s σ H v u Q I r hw;obtain⟨a,xs,e1,hq,hl,hw⟩:=hw;subst e1;cases r;obtain⟨C',rv,ht,hz⟩:=I.tuple hq;refine assign_Tuple_tuple (I.ok.hd hc) ht (by simp[hn,<-hl,rv.length]) EA fun h' hx=>?_
 have I1:Inv X aa σ H {s with heap:=h'}:=I.kept (t':=s.toks) fun b o e=>hx b o (Nat.ne_of_lt (Z_ e)) e
 exact h aa _ σ H xs _ Q I1 (by simpa using rv) hw
noncomputable def me(te:TE)(g:TG):TS:=fun D σ H=>te σ H fun x H1=>g x σ H1 D.nx
theorem CG{tg e:ZN}{te:TE}{g:TG}(he:PE X e te)(hg:PG X tg g)(hs:swapsWithSole [tg] e pos.line X.env=pure false:=by rfl)(hw:swappedStores [tg] e X.env=pure none:=by rfl)
  (h1:(assignEach [tg] X.env).map (·.2)=[assign tg X.env]:=by rfl):PS X (.Assign [tg] e pos) (me te g):=by
 intro aa s σ H D I h;refine wpAny_Assign_stores (thn (he aa s σ H _ I h) fun v s1 zz=>?_) hs hw;obtain⟨x,H1,I1,r1,q1⟩:=zz;rw[h1];exact thn (hg aa s1 σ H1 x v _ I1 r1 q1) fun _ s2 q=>q
theorem yy{i:Nat}{x:Str}{e:ZN}{te:TE}{pos':Pos}(hN:X.N.Nodup)(hi:X.N[i]?=some x)(hx:Loc X.env.scope x)(he:PE X e te)(hs:swapsWith e (some (.Name x pos')) pos.line X.env=pure false:=by rfl)(hf:X.fn x=true\/X.env.scope.names.lookup x=some .local:=by first|exact .inl rfl|exact .inr rfl|assumption):
  PS X (.Assign [.Name x pos'] e pos) (me te (dX i)):=by
 intro aa s σ H D I h;refine wpAny_Assign_Name (thn (he aa s σ H _ I h) fun v s1 zz=>?_) hs;obtain⟨y,H1,I1,r1,q1⟩:=zz;exact jI I1 hN hi hx r1 (fun s2 I2=>⟨_,H1,I2,q1⟩) hf
theorem aE{X:Cx}{pos:Pos}{i:Nat}{x:Str}{e:ZN}{te:TE}{pos':Pos}(hN:X.N.Nodup)(he:PE X e te)(hi:X.N[i]?=some x:=by rfl)(hx:Loc X.env.scope x:=by first|exact ZQ rfl|exact UU rfl)(hs:swapsWith e (some (.Name x pos')) pos.line X.env=pure false:=by rfl)(hf:X.fn x=true\/X.env.scope.names.lookup x=some .local:=by first|exact .inl rfl|exact .inr rfl|assumption):PS X (.Assign [.Name x pos'] e pos) (me te (dX i)):=yy hN hi hx he hs hf
end
section
variable{X:Cx}{pos:Pos}
noncomputable def xG(c:TT)(tb:TS):TS:=fun D σ H=>∃W:Nat->St->Hp->Prop,(∃m,W m σ H)/\∀m σ H,W m σ H->
 c σ H fun b H1=>if b=true then ∃N:St->Hp->Prop,(∀σ' H',N σ' H'->∃m',m'<m/\W m' σ' H')/\tb {D with nx:=N,ct:=N,bk:=D.nx} σ H1 else D.nx σ H1
theorem lS{c:ZN}{body:List Stmt}{tc:TT}{tb:TS}(hp:PassesOwn (model X.prog X.w) X.A X.env X.xe)(hc:PT X c tc)(hb:PSs X body tb):PS X (.While c body [] pos) (xG tc tb):=by
 intro aa s σ H D I h;obtain⟨W,⟨m0,w0⟩,turn⟩:=h;refine wpAny_While (codeAny_whileLoop (fun n s'=>∃σ' H',Inv X aa σ' H' s'/\W n σ' H') ?_ m0 ⟨σ,H,I,w0⟩);rintro n s1 ⟨σ1,H1,I1,w1⟩;refine Xu hp (thn (hc aa s1 σ1 H1 _ I1 (turn n σ1 H1 w1)) fun b s2 zz=>?_);obtain⟨H2,I2,q2⟩:=zz;cases b with
 |true=>
  obtain⟨N,hN,q2⟩:=q2;rw[if_pos rfl];refine Xu hp (thn (hb aa s2 σ1 H2 _ I2 q2) fun f s3 q3=>?_);cases f with
  |next=>
   obtain⟨σ3,H3,I3,n3⟩:=q3;obtain⟨m',hm,w3⟩:=hN σ3 H3 n3;exact⟨m',hm,σ3,H3,I3,w3⟩
  |cont=>
   obtain⟨σ3,H3,I3,n3⟩:=q3;obtain⟨m',hm,w3⟩:=hN σ3 H3 n3;exact⟨m',hm,σ3,H3,I3,w3⟩
  |brk=>exact q3
  |ret v=>exact q3
 |false=>
  rw[if_neg Zm];exact XF ⟨σ1,H2,I2,q2⟩
end
structure It where
 go:Nat->Hp->Prop
 yld:Nat->Hp->V->Hp->Prop
 stop:Nat->Hp->Prop
noncomputable def jb(X:Cx)(aa:List (Addr×Obj))(H:Hp)(b:Addr):Prop:=
 H b=none/\b≠X.env.locals/\b∉X.fs/\(b∈X.ex\/X.s₀.heap.objs.size<=b)/\(∀x c,X.env.cells.lookup x=some c->c≠b)/\∀p∈X.pn++aa,p.1≠b
theorem Inv.fpOk{X:Cx}{aa:List (Addr×Obj)}{σ:St}{H H':Hp}{s:Shared}{b:Addr}(I:Inv X aa σ H s)(hb:s.heap.objs.size<=b)(hn:H' b=none):jb X aa H' b:=by
 refine⟨hn,Nat.ne_of_gt (Nat.lt_of_lt_of_le I.lt hb),I.nofs hb,.inr (Nat.le_trans I.sz hb),fun x c e z=>?_,fun p hp z=>?_⟩
 ·obtain⟨v,q⟩:=I.cell x c e;exact absurd (Nat.lt_of_lt_of_le q.lt (by rw[z];exact hb)) (Nat.lt_irrefl _)
 ·exact absurd (Nat.lt_of_lt_of_le (Z_ (I.pin p hp).1) (by rw[z];exact hb)) (Nat.lt_irrefl _)
structure ow(P:Zv)(w:Zl)(K:Z3)(tg:ZN)(J:It)(fp:List Addr)(it:Addr)(tn:Nat->ZF->Prop):Prop where
 mem:it∈fp
 obj:∀i h,tn i h->∀b∈fp,∃o,h.get? b=some o/\∀v,o.data≠.cell v
 keep:∀i h h',tn i h->(∀b∈fp,∀o,h.get? b=some o->h'.get? b=some o)->tn i h'
 item:∀(X:Cx),X.prog=P->X.w=w->X.K=K->X.calm=true->∀(i:Nat) (aa:List (Addr×Obj)) (s:Shared) (σ:St) (H:Hp) (E:Value->Shared->Prop),Inv X aa σ H s->(∀b∈fp,jb X aa H b)->tn i s.heap->J.go i H->
  Zq (model P w) X.A (pyNext (.ref it)) (fun r s1=>∃u,r=some u/\
   Zq (model P w) X.A (letOwnedTupleGo tg (.ref it) u) (fun _ s2=>∃x H',Inv X aa σ H' s2/\RelV x u/\J.yld i H x H'/\tn (i+1) s2.heap/\∀b∈fp,H' b=none) E s1) E s
 done:∀(X:Cx),X.prog=P->X.w=w->X.K=K->X.calm=true->∀(i:Nat) (aa:List (Addr×Obj)) (s:Shared) (σ:St) (H:Hp) (E:Value->Shared->Prop),Inv X aa σ H s->(∀b∈fp,jb X aa H b)->tn i s.heap->J.stop i H->
  Zq (model P w) X.A (pyNext (.ref it)) (fun r s1=>r=none/\Inv X aa σ H s1) E s
 self:∀(A:ZK) (i:Nat) (s:Shared) (Q:Value->Shared->Prop) (E:Value->Shared->Prop),tn i s.heap->Q (.ref it) s->Zq (model P w) A (pyIter (.ref it)) Q E s
noncomputable abbrev TI:=St->Hp->(It->Hp->Prop)->Prop
noncomputable def PIE(X:Cx)(aa:List (Addr×Obj))(σ:St)(tg:ZN)(R:It->Hp->Prop)(G7:Value)(s2:Shared):Prop:=
 ∃(it:Addr) (fp:List Addr) (tn:Nat->ZF->Prop) (J:It) (H':Hp),G7=.ref it/\Inv X aa σ H' s2/\ow X.prog X.w X.K tg J fp it tn/\tn 0 s2.heap/\(∀b∈fp,jb X aa H' b)/\R J H'
noncomputable def PI(X:Cx)(tg iter:ZN)(wi:TI):Prop:=
 ∀(aa:List (Addr×Obj)) (s:Shared) (σ:St) (H:Hp) (R:It->Hp->Prop),Inv X aa σ H s->wi σ H R->
  Zq (model X.prog X.w) X.A (eval iter X.env) (fun v s1=>Zq (model X.prog X.w) X.A (pyIter v) (PIE X aa σ tg R) X.xe s1) X.xe s
theorem AC{M:UR}{A:ZK}{E:Value->Shared->Prop}{s:Shared}{tg:ZN}{it:Addr}{u:Value}{o:Obj}{n:String}{vs:Array Value}{Q:Unit->Shared->Prop}(ho:s.heap.get? it=some o)(hc:o.cls=.type n)(hd:o.data=.fields vs)
  (hn:["enumerate","zip","dict_itemiterator","dict_reverseitemiterator","odict_iterator","itertools.zip_longest","itertools.pairwise"].contains n=false)(hQ:Q () s):Zq M A (letOwnedTupleGo tg (.ref it) u) Q E s:=by
 unfold letOwnedTupleGo;cases tg<;>first
  |exact Z7 hQ
  | (cases u<;>first
    |exact Z7 hQ
    | (refine Z1 (wpAny_load ho ?_)
       rw[hc,hd];show Zq M A (if (["enumerate","zip","dict_itemiterator","dict_reverseitemiterator","odict_iterator","itertools.zip_longest","itertools.pairwise"].contains n&&vs[0]? == some (Yu _))=true then _ else _) Q E s
       rw[if_neg (by intro h;rw[hn,Xc]at h;cases h)]
       exact Z7 hQ))
noncomputable def Itl(K:Z3)(a:Addr):It:=
 ⟨fun i H=>∃xs x,SqL K H a xs/\xs[i]?=some x,fun i H x H'=>H'=H/\∀xs,SqL K H a xs->xs[i]?=some x,fun i H=>∃xs,SqL K H a xs/\xs.length<=i⟩
noncomputable def Itr(lo:Int)(n:Nat):It:=⟨fun i _=>i<n,fun i H x H'=>H'=H/\x=.int (lo+i),fun i _=>n<=i⟩
theorem yp{P:Zv}{w:Zl}{K:Z3}{tg:ZN}(a it:Addr):ow P w K tg (Itl K a) [it] it (fun i h=>h.IsListIter it a i) where
 mem:=by simp
 obj:=fun i h st b hb=>by
  have e:b=it:=by simpa using hb
  subst e;obtain⟨o,e,c,d⟩:=st;exact⟨o,e,fun v z=>by rw[d]at z;cases z⟩
 keep:=fun i h h' st k=>st.at fun o e=>k it (by simp) o e
 item:=by
  intro X hP hw hK hc i aa s σ H E I hf st hg;subst hP hw hK;obtain⟨xs,x,hq,hx⟩:=hg;obtain⟨C',rv,p,hz⟩:=I.list hq;obtain⟨u,hu,ru⟩:=rv.get hx;obtain⟨f0,f1,f2,f3,f4,f5⟩:=hf it (by simp)
  refine wpAny_pyNext_list_item st p.isList (x:=u) (by simpa using hu) fun h' st' sb=>?_
  have I1:Inv X aa σ H {s with heap:=h'}:=I.turned (t':=s.toks) (fun b o hb e=>(sb.2 b hb).trans e) f0 f1 f3 f4 f5
  obtain⟨o,e,c,d⟩:=id st';exact⟨u,rfl,AC (s:={s with heap:=h'}) e c d (by decide) ⟨x,H,I1,ru,⟨rfl,fun ys hy=>by rw[I.list_inj hy hq];exact hx⟩,st',fun b hb=>(hf b hb).1⟩⟩
 done:=by
  intro X hP hw hK hc i aa s σ H E I hf st hg;subst hP hw hK;obtain⟨xs,hq,hx⟩:=hg;obtain⟨C',rv,p,hz⟩:=I.list hq;obtain⟨f0,f1,f2,f3,f4,f5⟩:=hf it (by simp)
  have hl:=rv.length;exact wpAny_pyNext_list_end (I.ok.hd hc) st p.isList (by simp;lia) fun h' eb=>⟨rfl,I.turned (t':=s.toks) (fun b o hb e=>eb b o hb e) f0 f1 f3 f4 f5⟩
 self:=fun _ _ _ _ _ st h=>wpAny_pyIter_listiter st h
theorem wx{P:Zv}{w:Zl}{K:Z3}{tg:ZN}(it:Addr)(lo:Int)(n:Nat):ow P w K tg (Itr lo n) [it] it (fun i h=>Sw h it (lo+(i:Nat)*1) ((n:Int)-(i:Nat)) 1) where
 mem:=by simp
 obj:=fun i h st b hb=>by
  have e:b=it:=by simpa using hb
  subst e;exact⟨_,st,fun v z=>by
   have z':Data.fields _=Data.cell v:=z;cases z'⟩
 keep:=fun i h h' st k=>k it (by simp) _ st
 item:=by
  intro X hP hw hK hc i aa s σ H E I hf st hg;subst hP hw hK;obtain⟨f0,f1,f2,f3,f4,f5⟩:=hf it (by simp)
  have W:=Walks.range (prog:=X.prog) (w:=X.w) (I.ok.hd hc) it lo 1 n;refine W.item i s _ _ hg st fun v h' tk hv st' kk=>?_;obtain⟨t,rfl⟩:=hv;have I1:Inv X aa σ H {s with heap:=h',toks:=tk}:=I.turned (fun b o hb e=>kk b o (by simpa using hb) e) f0 f1 f3 f4 f5
  refine⟨_,rfl,AC (s:={s with heap:=h',toks:=tk}) (n := "range_iterator") st' rfl rfl (by decide) ⟨.int (lo+i),H,I1,⟨t,?_⟩,⟨rfl,rfl⟩,st',fun b hb=>(hf b hb).1⟩⟩
  rw[Int.mul_one]
 done:=by
  intro X hP hw hK hc i aa s σ H E I hf st hg;subst hP hw hK;obtain⟨f0,f1,f2,f3,f4,f5⟩:=hf it (by simp)
  exact wpAny_pyNext_range_end (I.ok.hd hc) st (by have:n<=i:=hg;lia) fun h' eb=>⟨rfl,I.turned (t':=s.toks) (fun b o hb e=>eb b o hb e) f0 f1 f3 f4 f5⟩
 self:=fun _ _ _ _ _ st h=>wpAny_pyIter_rangeiter st h
end L2
namespace L2
open PySem PySem.Spec PyProof.Rows
section
variable{X:Cx}{tg:ZN}
noncomputable def jL(K:Z3)(tl:TE):TI:=fun σ H R=>tl σ H fun x H1=>∃a,x=.ref a/\(∃xs,SqL K H1 a xs)/\R (Itl K a) H1
theorem bp{l:ZN}{tl:TE}(hl:PE X l tl):PI X tg l (jL X.K tl):=by
 intro aa s σ H R I h;refine thn (hl aa s σ H _ I h) fun v s1 zz=>?_;obtain⟨x,H1,I1,r1,q1⟩:=zz;obtain⟨a,e,⟨xs,hq⟩,q⟩:=q1;subst e;cases r1;obtain⟨C',rv,p,hz⟩:=I1.list hq;refine Xn p.isList ?_;refine⟨s1.heap.objs.size,[s1.heap.objs.size],_,_,H1,rfl,I1.kept (t':=s1.toks) fun b o e=>Z8 _ e,yp a _,⟨_,Zk _ rfl,rfl,rfl⟩,fun b hb=>?_,q⟩;have e:b=s1.heap.objs.size:=by simpa using hb
 subst e;exact I1.fpOk (Nat.le_refl _) (I1.hok.fresh (Nat.le_refl _))
theorem sF{aa:List (Addr×Obj)}{σ:St}{H:Hp}{s:Shared}{R:It->Hp->Prop}{E:Value->Shared->Prop}{lo hi:Int}{t u v:Tok}{tk:Nat}(I:Inv X aa σ H s)(h1:-(2^62)<=lo)(h2:lo<2^62)(h3:-(2^62)<=hi)(h4:hi<2^62)
  (q:R (Itr lo (hi-lo).toNat) H):Zq (model X.prog X.w) X.A (pyIter (.ref s.heap.objs.size)) (PIE X aa σ tg R) E {s with heap:=s.heap.push {cls:=.type "range",data:=.fields #[.int lo t,.int hi u,.int 1 v]},toks:=tk}:=by
 refine wpAny_pyIter_range (IsRange.new ..) (small_one h1 h2 h3 h4) ?_;have I1:Inv X aa σ H {s with heap:=s.heap.push {cls:=.type "range",data:=.fields #[.int lo t,.int hi u,.int 1 v]},toks:=tk}:=I.kept fun b o e=>Z8 _ e
 refine⟨(s.heap.push {cls:=.type "range",data:=.fields #[.int lo t,.int hi u,.int 1 v]}).objs.size,[(s.heap.push {cls:=.type "range",data:=.fields #[.int lo t,.int hi u,.int 1 v]}).objs.size],_,_,H,rfl,
  I1.kept (t':=tk) fun b o e=>Z8 _ e,wx _ lo (hi-lo).toNat,?_,fun b hb=>?_,q⟩
 ·have e1:lo+((0:Nat):Int)*1=lo:=by simp
  have e2:(((hi-lo).toNat:Nat):Int)-((0:Nat):Int)=TU lo hi 1:=by rw[rangeSize_one];split<;>lia
  show Sw _ _ (lo+((0:Nat):Int)*1) ((((hi-lo).toNat:Nat):Int)-((0:Nat):Int)) 1;rw[e1,e2];exact Zk _ rfl
 ·have e:b=(s.heap.push {cls:=.type "range",data:=.fields #[.int lo t,.int hi u,.int 1 v]}).objs.size:=by simpa using hb
  subst e;exact I1.fpOk (Nat.le_refl _) (I1.hok.fresh (Nat.le_refl _))
noncomputable def DS(ta:TA):TI:=fun σ H R=>ta σ H fun vs H1=>∃j:Int,vs=[.int j]/\-(2^62)<=j/\j<2^62/\R (Itr 0 j.toNat) H1
noncomputable def Eo(ta:TA):TI:=fun σ H R=>ta σ H fun vs H1=>∃i j:Int,vs=[.int i,.int j]/\(-(2^62)<=i/\i<2^62/\-(2^62)<=j/\j<2^62)/\R (Itr i (j-i).toNat) H1
theorem eC{a:ZN}{ta:TA}{p pos:Pos}(hg:Gl X "range")(hm:X.mg "range" = none)(ha:PA X [a] ta)(hs:Zp [a] X.env=[(false,eval a X.env)]:=by rfl):PI X tg (.Call (.Name "range" p) [a] [] pos) (DS ta):=by
 intro aa s σ H R I h;refine Call_ (fG I hg hm boot_range (ZV (thn (ha pos aa s σ H _ I h) fun us s1 zz=>?_) hs rfl));obtain⟨vs,H1,I1,r1,q1⟩:=zz;obtain⟨j,e,q1,q2,q⟩:=q1;subst e;cases r1 with
 |cons r rr=>
  cases rr;obtain⟨t,rfl⟩:=r;exact call_range_1 (sF I1 (by lia) (by lia) q1 q2 (by simpa using q))
theorem pB{a b:ZN}{ta:TA}{p pos:Pos}(hg:Gl X "range")(hm:X.mg "range" = none)(ha:PA X [a,b] ta)(hs:Zp [a,b] X.env=[(false,eval a X.env),(false,eval b X.env)]:=by rfl)(Fv:Zp [b] X.env=[(false,eval b X.env)]:=by rfl):
  PI X tg (.Call (.Name "range" p) [a,b] [] pos) (Eo ta):=by
 intro aa s σ H R I h;refine Call_ (fG I hg hm boot_range (ZV (thn (ha pos aa s σ H _ I h) fun us s1 zz=>?_) (by rw[hs,Fv]) (by rw[Fv];rfl)))
 obtain⟨vs,H1,I1,r1,q1⟩:=zz;obtain⟨i,j,e,⟨q1,q2,q3,q4⟩,q⟩:=q1;subst e;cases r1 with
 |cons r rr=>
  cases rr with
  |cons r' rr=>
   cases rr;obtain⟨t,rfl⟩:=r;obtain⟨t',rfl⟩:=r';exact call_range_2 (sF I1 q1 q2 q3 q4 q)
noncomputable def DG(wi:TI)(g:TG)(tb:TS):TS:=fun D σ H=>wi σ H fun J H1=>∃W:Nat->Nat->St->Hp->Prop,(∃m,W 0 m σ H1)/\∀i m σ H,W i m σ H->
 (J.stop i H/\D.nx σ H)\/(J.go i H/\∃N:St->Hp->Prop,(∀σ' H',N σ' H'->∃m',m'<m/\W (i+1) m' σ' H')/\∀x H',J.yld i H x H'->g x σ H' fun σ2 H2=>tb {D with nx:=N,ct:=N,bk:=D.nx} σ2 H2)
noncomputable def kK(fp:List Addr)(h:ZF):List (Addr×Obj):=fp.filterMap fun b=>(h.get? b).map fun o=>(b,o)
theorem jS{fp:List Addr}{h:ZF}{b:Addr}{o:Obj}(hb:b∈fp)(e:h.get? b=some o):(b,o)∈kK fp h:=XA.mpr ⟨b,hb,by rw[e];rfl⟩
theorem wU{fp:List Addr}{h:ZF}{p:Addr×Obj}(hp:p∈kK fp h):p.1∈fp/\h.get? p.1=some p.2:=by
 obtain⟨b,hb,e⟩:=XA.mp hp;cases q:h.get? b with
 |none=>rw[q]at e;cases e
 |some o=>
  rw[q]at e;have e':(b,o)=p:=ZH e;subst e';exact⟨hb,q⟩
theorem Inv.pinned{aa:List (Addr×Obj)}{σ:St}{H:Hp}{s:Shared}{fp:List Addr}(I:Inv X aa σ H s)(hf:∀b∈fp,jb X aa H b)(ho:∀b∈fp,∃o,s.heap.get? b=some o/\∀v,o.data≠.cell v):Inv X (aa++kK fp s.heap) σ H s:=
 I.pins_of fun p hp=>(ZE.mp hp).elim (fun z=>I.pin p (ZB _ z)) fun z=>by
  obtain⟨hb,e⟩:=wU z;obtain⟨f0,f1,f2,_⟩:=hf p.1 hb;obtain⟨o,e',d⟩:=ho p.1 hb;rw[e]at e';cases e';exact⟨e,f0,f1,f2,d⟩
theorem Inv.unpinned{aa pl:List (Addr×Obj)}{σ:St}{H:Hp}{s:Shared}(I:Inv X (aa++pl) σ H s):Inv X aa σ H s:=I.pins_of fun p hp=>I.pin p (ZB _ (XT _ hp))
theorem gU{iter:ZN}{body:List Stmt}{wi:TI}{g:TG}{tb:TS}{pos:Pos}(hp:PassesOwn (model X.prog X.w) X.A X.env X.xe)(hc:X.calm=true)(hi:PI X tg iter wi)(hg:PG X tg g)(hb:PSs X body tb)
  (hs:∀x,foldedSetIterable iter X.env x=pure x:=by intro _;rfl):PS X (.For tg iter body [] pos) (DG wi g tb):=by
 intro aa s σ H D I h;refine wpAny_For (thn (hi aa s σ H _ I h) fun v s1 h1=>thn h1 fun G7 s2 h2=>?_) hs;obtain⟨it,fp,tn,J,H2,e,I2,T,Fd,f2,W,⟨m0,w0⟩,turn⟩:=h2;subst e;have stat:∀{H':Hp},(∀b∈fp,H' b=none)->∀b∈fp,jb X aa H' b:=fun hn b hb=>⟨hn b hb,(f2 b hb).2⟩;refine codeAny_forLoop_any (fun n s'=>∃i σ' H',Inv X aa σ' H' s'/\tn i s'.heap/\(∀b∈fp,H' b=none)/\W i n σ' H') ?_ m0 ⟨0,σ,H2,I2,Fd,fun b hb=>(f2 b hb).1,w0⟩;rintro n s3 ⟨i,σ3,H3,I3,st3,fr3,w3⟩;rcases turn i n σ3 H3 w3 with ⟨stop,qn⟩|⟨go,N,hN,step⟩
 ·refine Xu hp (thn (T.done X rfl rfl rfl hc i aa s3 σ3 H3 X.xe I3 (stat fr3) st3 stop) fun r s4 zz=>?_);obtain⟨hr,I4⟩:=zz;subst hr;exact XF ⟨σ3,H3,I4,qn⟩
 ·refine Xu hp (thn (T.item X rfl rfl rfl hc i aa s3 σ3 H3 X.xe I3 (stat fr3) st3 go) fun r s4 zz=>?_);obtain⟨u,hr,h4⟩:=zz;subst hr;refine Xu hp (thn h4 fun _ s5 zz=>?_);obtain⟨x,H5,I5,r5,y5,st5,fr5⟩:=zz;have I5':=I5.pinned (stat fr5) (T.obj _ _ st5);refine Xu hp (thn (hg _ s5 σ3 H5 x u _ I5' r5 (step x H5 y5)) fun _ s6 zz=>?_);obtain⟨σ6,H6,I6,q6⟩:=zz;refine Xu hp (thn (hb _ s6 σ6 H6 _ I6 q6) fun f s7 q7=>?_);have again:∀{σ7:St} {H7:Hp},Inv X (aa++kK fp s5.heap) σ7 H7 s7->N σ7 H7->∃m,m<n/\∃i σ' H',Inv X aa σ' H' s7/\tn i s7.heap/\(∀b∈fp,H' b=none)/\W i m σ' H':=fun {σ7 H7} I7 n7=>by
   obtain⟨m',hm,w7⟩:=hN σ7 H7 n7;refine⟨m',hm,i+1,σ7,H7,I7.unpinned,T.keep _ _ _ st5 fun b hb o e=>(I7.pin (b,o) (ZB _ (ZB _ (jS hb e)))).1,fun b hb=>?_,w7⟩;obtain⟨o,e,d⟩:=T.obj _ _ st5 b hb;exact (I7.pin (b,o) (ZB _ (ZB _ (jS hb e)))).2.1
  cases f with
  |next=>obtain⟨σ7,H7,I7,n7⟩:=q7;exact again I7 n7
  |cont=>obtain⟨σ7,H7,I7,n7⟩:=q7;exact again I7 n7
  |brk=>obtain⟨σ7,H7,I7,q7⟩:=q7;exact⟨σ7,H7,I7.unpinned,q7⟩
  |ret v=>obtain⟨x7,σ7,H7,I7,r7,q7⟩:=q7;exact⟨x7,σ7,H7,I7.unpinned,r7,q7⟩
end
theorem rP{K:Z3}{a:Addr}{xs:List V}{g:TG}{tb:TS}{D:g9}{σ:St}{H:Hp}(Pv:Nat->St->Hp->Prop)(h0:Pv 0 σ H)(hl:∀i σ H,i<=xs.length->Pv i σ H->SqL K H a xs)
  (hs:∀i x σ H,xs[i]?=some x->Pv i σ H->g x σ H fun σ2 H2=>tb {D with nx:=Pv (i+1),ct:=Pv (i+1),bk:=D.nx} σ2 H2)(hd:∀σ H,Pv xs.length σ H->D.nx σ H):
  ∃W:Nat->Nat->St->Hp->Prop,(∃m,W 0 m σ H)/\∀i m σ H,W i m σ H->
   ((Itl K a).stop i H/\D.nx σ H)\/((Itl K a).go i H/\∃N:St->Hp->Prop,(∀σ' H',N σ' H'->∃m',m'<m/\W (i+1) m' σ' H')/\∀x H',(Itl K a).yld i H x H'->g x σ H' fun σ2 H2=>tb {D with nx:=N,ct:=N,bk:=D.nx} σ2 H2):=by
 refine⟨fun i m σ H=>m=xs.length-i/\i<=xs.length/\Pv i σ H,⟨xs.length,by simp,Nat.zero_le _,h0⟩,?_⟩
 rintro i m σ H ⟨rfl,hi,p⟩;have q:=hl i σ H hi p;by_cases Eu:i<xs.length
 ·refine .inr ⟨⟨xs,xs[i],q,by simp[Eu]⟩,Pv (i+1),fun σ' H' p'=>⟨xs.length-(i+1),by lia,rfl,Eu,p'⟩,fun x H' y=>?_⟩
  obtain⟨e,y⟩:=y;subst e;exact hs i x σ _ (y xs q) p
 ·have e:i=xs.length:=by lia
  subst e;exact .inl ⟨⟨xs,q,Nat.le_refl _⟩,hd σ H p⟩
theorem iR{lo:Int}{n:Nat}{g:TG}{tb:TS}{D:g9}{σ:St}{H:Hp}(Pv:Nat->St->Hp->Prop)(h0:Pv 0 σ H)
  (hs:∀i σ H,i<n->Pv i σ H->g (.int (lo+i)) σ H fun σ2 H2=>tb {D with nx:=Pv (i+1),ct:=Pv (i+1),bk:=D.nx} σ2 H2)(hd:∀σ H,Pv n σ H->D.nx σ H):
  ∃W:Nat->Nat->St->Hp->Prop,(∃m,W 0 m σ H)/\∀i m σ H,W i m σ H->
   ((Itr lo n).stop i H/\D.nx σ H)\/((Itr lo n).go i H/\∃N:St->Hp->Prop,(∀σ' H',N σ' H'->∃m',m'<m/\W (i+1) m' σ' H')/\∀x H',(Itr lo n).yld i H x H'->g x σ H' fun σ2 H2=>tb {D with nx:=N,ct:=N,bk:=D.nx} σ2 H2):=by
 refine⟨fun i m σ H=>m=n-i/\i<=n/\Pv i σ H,⟨n,by simp,Nat.zero_le _,h0⟩,?_⟩
 rintro i m σ H ⟨rfl,hi,p⟩;by_cases Eu:i<n
 ·refine .inr ⟨Eu,Pv (i+1),fun σ' H' p'=>⟨n-(i+1),by lia,rfl,Eu,p'⟩,fun x H' y=>?_⟩
  obtain⟨e,y⟩:=y;subst e y;exact hs i σ _ Eu p
 ·have e:i=n:=by lia
  subst e;exact .inl ⟨Nat.le_refl _,hd σ H p⟩
theorem Al{c:TT}{tb:TS}{D:g9}{σ:St}{H:Hp}(Pv:St->Hp->Prop)(μ:St->Hp->Nat)(h0:Pv σ H)
  (hs:∀σ H,Pv σ H->c σ H fun b H1=>if b=true then tb {D with nx:=fun σ' H'=>Pv σ' H'/\μ σ' H'<μ σ H,ct:=fun σ' H'=>Pv σ' H'/\μ σ' H'<μ σ H,bk:=D.nx} σ H1 else D.nx σ H1)
  (mono:∀σ H Q Q',(∀b H1,Q b H1->Q' b H1)->c σ H Q->c σ H Q'):xG c tb D σ H:=by
 refine⟨fun m σ H=>m=μ σ H/\Pv σ H,⟨_,rfl,h0⟩,?_⟩;rintro m σ H ⟨rfl,p⟩;refine mono σ H _ _ (fun b H1 q=>?_) (hs σ H p);cases b with
 |true=>exact⟨_,fun σ' H' ⟨p',l⟩=>⟨_,l,rfl,p'⟩,q⟩
 |false=>exact q
end L2
namespace L2
open PySem PySem.Spec PyProof.Rows
noncomputable abbrev R2:=V->V->Hp->VK->Prop
noncomputable def OpR(X:Cx)(f:Value->Value->Sem Value)(r:R2):Prop:=
 ∀(aa:List (Addr×Obj)) (s:Shared) (σ:St) (H:Hp) (x y:V) (v u:Value) (Q:VK),Inv X aa σ H s->RelV x v->RelV y u->r x y H Q->
  Zq (model X.prog X.w) X.A (f v u) (EP X aa σ Q) X.xe s
noncomputable def UnR(X:Cx)(f:Value->Sem Value)(r:V->Hp->VK->Prop):Prop:=
 ∀(aa:List (Addr×Obj)) (s:Shared) (σ:St) (H:Hp) (x:V) (v:Value) (Q:VK),Inv X aa σ H s->RelV x v->r x H Q->
  Zq (model X.prog X.w) X.A (f v) (EP X aa σ Q) X.xe s
noncomputable def dy(X:Cx)(f:Value)(r:List V->Hp->VK->Prop):Prop:=
 ∀(aa:List (Addr×Obj)) (s:Shared) (σ:St) (H:Hp) (xs:List V) (us:List Value) (Q:VK),Inv X aa σ H s->aR xs us->r xs H Q->
  Zq (model X.prog X.w) X.A (call f us) (EP X aa σ Q) X.xe s
noncomputable def tOp(r:R2)(ta tb:TE):TE:=fun σ H Q=>ta σ H fun x H1=>tb σ H1 fun y H2=>r x y H2 Q
noncomputable def tUn(r:V->Hp->VK->Prop)(ta:TE):TE:=fun σ H Q=>ta σ H fun x H1=>r x H1 Q
noncomputable def rI(C:Int->Int->Prop)(g:Int->Int->V):R2:=fun x y H Q=>∃i j,x=.int i/\y=.int j/\C i j/\Q (g i j) H
noncomputable def rI0(g:Int->Int->V):R2:=fun x y H Q=>∃i j,x=.int i/\y=.int j/\Q (g i j) H
noncomputable def rU(g:Int->V):V->Hp->VK->Prop:=fun x H Q=>∃i,x=.int i/\Q (g i) H
section
variable{X:Cx}{a b c:ZN}{ta tb tc:TE}{pos:Pos}
theorem zv(ha:PE X a ta)(hb:PE X b tb){aa:List (Addr×Obj)}{s:Shared}{σ:St}{H:Hp}{R:V->V->Hp->Prop}(I:Inv X aa σ H s)
  (h:ta σ H fun x H1=>tb σ H1 fun y H2=>R x y H2){Q:Value->Shared->Prop}{f:Value->Value->Sem Value}
  (hf:∀v u s2 x y H2,Inv X aa σ H2 s2->RelV x v->RelV y u->R x y H2->Zq (model X.prog X.w) X.A (f v u) Q X.xe s2):
  Zq (model X.prog X.w) X.A (eval a X.env) (fun v s₁=>Zq (model X.prog X.w) X.A (eval b X.env) (fun u s₂=>Zq (model X.prog X.w) X.A (f v u) Q X.xe s₂) X.xe s₁) X.xe s:=by
 refine thn (ha aa s σ H _ I h) fun v s1 zz=>?_;obtain⟨x,H1,I1,r1,q1⟩:=zz;refine thn (hb aa s1 σ H1 _ I1 q1) fun u s2 zz=>?_;obtain⟨y,H2,I2,r2,q2⟩:=zz;exact hf v u s2 x y H2 I2 r1 r2 q2
theorem ai{op:Sv}{r:R2}(ho:OpR X (binaryOp op) r)(ha:PE X a ta)(hb:PE X b tb):PE X (.BinOp a op b pos) (tOp r ta tb):=by
 intro aa s σ H Q I h;exact wpAny_BinOp (zv ha hb I h fun v u s2 x y H2 I2 rx ry q=>ho aa s2 σ H2 x y v u Q I2 rx ry q)
theorem nX{op:UnaryOp}{r:V->Hp->VK->Prop}(ho:UnR X (unaryOp op) r)(ha:PE X a ta):PE X (.UnaryOp op a pos) (tUn r ta):=by
 intro aa s σ H Q I h;exact UnaryOp_ (thn (ha aa s σ H _ I h) fun v s1 ⟨x,H1,I1,r1,q1⟩=>ho aa s1 σ H1 x v Q I1 r1 q1)
theorem opI{f:Value->Value->Sem Value}{C:Int->Int->Prop}{g:Int->Int->Int}
  (rule:∀(i j:Int) (t u:Tok) (s:Shared) (Q:Value->Shared->Prop) (E:Value->Shared->Prop),C i j->Q (.int (g i j) s.toks) {s with toks:=s.toks+1}->Zq (model X.prog X.w) X.A (f (.int i t) (.int j u)) Q E s):
  OpR X f (rI C fun i j=>.int (g i j)):=by
 intro aa s σ H x y v u Q I rx ry h;obtain⟨i,j,rfl,rfl,hc,q⟩:=h;obtain⟨t,rfl⟩:=rx;obtain⟨t',rfl⟩:=ry;exact rule i j t t' s _ _ hc ⟨.int (g i j),H,I.tok _,⟨_,rfl⟩,q⟩
theorem Dx{f:Value->Value->Sem Value}{g:Int->Int->Int}
  (rule:∀(i j:Int) (t u:Tok) (s:Shared) (Q:Value->Shared->Prop) (E:Value->Shared->Prop),Q (.int (g i j) s.toks) {s with toks:=s.toks+1}->Zq (model X.prog X.w) X.A (f (.int i t) (.int j u)) Q E s):
  OpR X f (rI0 fun i j=>.int (g i j)):=by
 intro aa s σ H x y v u Q I rx ry h;obtain⟨i,j,rfl,rfl,q⟩:=h;obtain⟨t,rfl⟩:=rx;obtain⟨t',rfl⟩:=ry;exact rule i j t t' s _ _ ⟨.int (g i j),H,I.tok _,⟨_,rfl⟩,q⟩
theorem vp{f:Value->Value->Sem Value}{g:Int->Int->Bool}
  (rule:∀(i j:Int) (t u:Tok) (s:Shared) (Q:Value->Shared->Prop) (E:Value->Shared->Prop),Q (.bool (g i j)) s->Zq (model X.prog X.w) X.A (f (.int i t) (.int j u)) Q E s):
  OpR X f (rI0 fun i j=>.bl (g i j)):=by
 intro aa s σ H x y v u Q I rx ry h;obtain⟨i,j,rfl,rfl,q⟩:=h;obtain⟨t,rfl⟩:=rx;obtain⟨t',rfl⟩:=ry;exact rule i j t t' s _ _ ⟨.bl (g i j),H,I,rfl,q⟩
noncomputable def CK(i j:Int):Prop:=0<j/\j<1073741824
noncomputable def zr(i j:Int):Prop:=(-(2^64)<i/\i<2^64)\/(-(2^64)<j/\j<2^64)
theorem zr.ok{i j:Int}(h:zr i j):IntMulOk i j:=by
 rcases h with ⟨h1,h2⟩|⟨h1,h2⟩
 ·exact .of_left (Tj h1 h2)
 ·exact .of_right (Tj h1 h2)
theorem bE:OpR X (binaryOp .Add) (rI0 fun i j=>.int (i+j)):=Dx fun _ _ _ _ _ _ _ q=>add_int q
theorem bn:OpR X (binaryOp .Sub) (rI0 fun i j=>.int (i-j)):=Dx fun _ _ _ _ _ _ _ q=>sub_int q
theorem jq:OpR X (binaryOp .Mult) (rI zr fun i j=>.int (i*j)):=opI fun _ _ _ _ _ _ _ hc q=>mul_int q hc.ok
theorem gu:OpR X (binaryOp .FloorDiv) (rI CK fun i j=>.int (i/j)):=opI fun i j _ _ _ _ _ hc q=>by
 have h1:(0:Int)<j:=hc.1;have h2:j<1073741824:=hc.2;exact Uh (by lia) (by rw[Int.fdiv_eq_ediv_of_nonneg i (by lia)];exact q) (.inl (PyProof.noPylong_small (by lia)))
theorem dB:OpR X (binaryOp .Mod) (rI (fun _ j=>0<j) fun i j=>.int (i%j)):=opI fun i j _ _ _ _ _ hc q=>by
 have h1:(0:Int)<j:=hc;exact mod_int' (by lia) (by rw[Int.fmod_eq_emod_of_nonneg i (by lia)];exact q)
theorem unI{f:Value->Sem Value}{g:Int->Int}
  (rule:∀(i:Int) (t:Tok) (s:Shared) (Q:Value->Shared->Prop) (E:Value->Shared->Prop),Q (.int (g i) s.toks) {s with toks:=s.toks+1}->Zq (model X.prog X.w) X.A (f (.int i t)) Q E s):
  UnR X f (rU fun i=>.int (g i)):=by
 intro aa s σ H x v Q I rx h;obtain⟨i,rfl,q⟩:=h;obtain⟨t,rfl⟩:=rx;exact rule i t s _ _ ⟨.int (g i),H,I.tok _,⟨_,rfl⟩,q⟩
theorem kw:UnR X (unaryOp .USub) (rU fun i=>.int (-i)):=unI fun _ _ _ _ _ q=>neg_int q
end
noncomputable def C4:V->V->Bool
 | .non,.non=>true| .non,.int _=>true| .int _,.non=>true| .non,.bl _=>true| .bl _,.non=>true| .non,.str _=>true| .str _,.non=>true
 | .int _,.int _=>true| .bl _,.bl _=>true| .str _,.str _=>true| .byt _,.byt _=>true
 | .int _,.str _=>true| .str _,.int _=>true| .bl _,.str _=>true| .str _,.bl _=>true
 |_,_=>false
noncomputable def rEq:R2:=fun x y H Q=>C4 x y=true/\Q (.bl (decide (x=y))) H
noncomputable def rNe:R2:=fun x y H Q=>C4 x y=true/\Q (.bl (!decide (x=y))) H
theorem cX{i j:Int}:decide (V.int i=V.int j)=(i==j):=by
 rw[ZS];simp
theorem nt{i j:Bool}:decide (V.bl i=V.bl j)=(i==j):=by
 rw[ZS];simp
theorem uP{i j:Str}:decide (V.str i=V.str j)=(i==j):=by
 rw[ZS];simp
theorem uo{i j:Array UInt8}:decide (V.byt i=V.byt j)=(i.toList==j.toList):=by
 rw[ZS];cases i;cases j;simp
section
variable{X:Cx}{a b c:ZN}{ta tb tc:TE}{pos:Pos}
theorem bg{aa:List (Addr×Obj)}{σ:St}{H:Hp}{s:Shared}{Q:VK}{k k':Bool}(I:Inv X aa σ H s)(q:Q (.bl k) H)(e:k=k'):EP X aa σ Q (.bool k') s:=by
 subst e;exact⟨.bl k,H,I,rfl,q⟩
theorem be:OpR X (compareOp .Eq) rEq:=by
 intro aa s σ H x y v u Q I rx ry h;obtain⟨hs,q⟩:=h;cases x with
 |non=>
  cases rx;cases y with
  |non=>cases ry;exact Tv (bg I q (by simp))
  |bl j=>cases ry;exact Tu (bg I q (by simp))
  |int j=>obtain⟨t',rfl⟩:=ry;exact Ti (bg I q (by simp))
  |str j=>obtain⟨t',rfl⟩:=ry;exact Th (bg I q (by simp))
  |_=>exact absurd (show false=true from hs) Zm
 |bl i=>
  cases rx;cases y with
  |non=>cases ry;exact Tt (bg I q (by simp))
  |bl j=>cases ry;exact eq_bool (bg I q nt)
  |str j=>obtain⟨t',rfl⟩:=ry;exact Ts (bg I q (by simp))
  |_=>exact absurd (show false=true from hs) Zm
 |int i=>
  obtain⟨t,rfl⟩:=rx;cases y with
  |non=>cases ry;exact Tg (bg I q (by simp))
  |int j=>obtain⟨t',rfl⟩:=ry;exact eq_int (bg I q cX)
  |str j=>obtain⟨t',rfl⟩:=ry;exact Tf (bg I q (by simp))
  |_=>exact absurd (show false=true from hs) Zm
 |str i=>
  obtain⟨t,rfl⟩:=rx;cases y with
  |non=>cases ry;exact Te (bg I q (by simp))
  |bl j=>cases ry;exact Tr (bg I q (by simp))
  |int j=>obtain⟨t',rfl⟩:=ry;exact Td (bg I q (by simp))
  |str j=>obtain⟨t',rfl⟩:=ry;exact eq_str (bg I q uP)
  |_=>exact absurd (show false=true from hs) Zm
 |byt i=>
  obtain⟨t,rfl⟩:=rx;cases y with
  |byt j=>obtain⟨t',rfl⟩:=ry;exact PySem.W.eq_bytes (bg I q uo)
  |_=>exact absurd (show false=true from hs) Zm
 |_=>cases y<;>exact absurd (show false=true from hs) Zm
theorem iS:OpR X (compareOp .NotEq) rNe:=by
 intro aa s σ H x y v u Q I rx ry h;obtain⟨hs,q⟩:=h;cases x with
 |non=>
  cases rx;cases y with
  |non=>cases ry;exact Tq (bg I q (by simp))
  |bl j=>cases ry;exact Tp (bg I q (by simp))
  |int j=>obtain⟨t',rfl⟩:=ry;exact Tc (bg I q (by simp))
  |str j=>obtain⟨t',rfl⟩:=ry;exact Tb (bg I q (by simp))
  |_=>exact absurd (show false=true from hs) Zm
 |bl i=>
  cases rx;cases y with
  |non=>cases ry;exact To (bg I q (by simp))
  |bl j=>cases ry;exact ne_bool (bg I q (Y_ not nt))
  |str j=>obtain⟨t',rfl⟩:=ry;exact Tm (bg I q (by simp))
  |_=>exact absurd (show false=true from hs) Zm
 |int i=>
  obtain⟨t,rfl⟩:=rx;cases y with
  |non=>cases ry;exact Ta (bg I q (by simp))
  |int j=>obtain⟨t',rfl⟩:=ry;exact ne_int (bg I q (Y_ not cX))
  |str j=>obtain⟨t',rfl⟩:=ry;exact TB (bg I q (by simp))
  |_=>exact absurd (show false=true from hs) Zm
 |str i=>
  obtain⟨t,rfl⟩:=rx;cases y with
  |non=>cases ry;exact TC (bg I q (by simp))
  |bl j=>cases ry;exact Tl (bg I q (by simp))
  |int j=>obtain⟨t',rfl⟩:=ry;exact TD (bg I q (by simp))
  |str j=>obtain⟨t',rfl⟩:=ry;exact ne_str (bg I q (Y_ not uP))
  |_=>exact absurd (show false=true from hs) Zm
 |byt i=>
  obtain⟨t,rfl⟩:=rx;cases y with
  |byt j=>obtain⟨t',rfl⟩:=ry;exact PySem.W.ne_bytes (bg I q (Y_ not uo))
  |_=>exact absurd (show false=true from hs) Zm
 |_=>cases y<;>exact absurd (show false=true from hs) Zm
theorem nJ:OpR X (compareOp .Lt) (rI0 fun i j=>.bl (decide (i<j))):=vp fun _ _ _ _ _ _ _ q=>lt_int q
theorem AA:OpR X (compareOp .LtE) (rI0 fun i j=>.bl (decide (i<=j))):=vp fun _ _ _ _ _ _ _ q=>le_int q
theorem fJ:OpR X (compareOp .Gt) (rI0 fun i j=>.bl (decide (j<i))):=vp fun _ _ _ _ _ _ _ q=>gt_int q
theorem Eb:OpR X (compareOp .GtE) (rI0 fun i j=>.bl (decide (j<=i))):=vp fun _ _ _ _ _ _ _ q=>ge_int q
theorem wH(b:ZN){op:Su}(h:op≠.In:=by decide)(h2:op≠.NotIn:=by decide):behindInMarks op b=false:=by
 have e1:(op==CmpOp.In)=false:=by cases op<;>first|rfl|exact absurd rfl h
 have e2:(op==CmpOp.NotIn)=false:=by cases op<;>first|rfl|exact absurd rfl h2
 cases b<;>simp[behindInMarks,e1,e2]
theorem Bf{op:Su}{r:R2}(ho:OpR X (compareOp op) r)(ha:PE X a ta)(hb:PE X b tb)(hm:behindInMarks op b=false):PE X (.Compare a [op] [b] pos) (tOp r ta tb):=by
 intro aa s σ H Q I h;exact wpAny_Compare1 (zv ha hb I h fun v u s2 x y H2 I2 rx ry q=>ho aa s2 σ H2 x y v u Q I2 rx ry q) hm
theorem fY{X:Cx}{a b:ZN}{ta tb:TE}{pos:Pos}{op:Su}{r:R2}(ho:OpR X (compareOp op) r)(ha:PE X a ta)(hb:PE X b tb)(hm:behindInMarks op b=false:=by exact wH _):PE X (.Compare a [op] [b] pos) (tOp r ta tb):=Bf ho ha hb hm
noncomputable def wj(t:TE):TT:=fun σ H Q=>t σ H fun x H'=>∃k,x=.bl k/\Q k H'
theorem u_{op:Su}{r:R2}(ho:OpR X (compareOp op) r)(ha:PE X a ta)(hb:PE X b tb)(hm:behindInMarks op b=false):PT X (.Compare a [op] [b] pos) (wj (tOp r ta tb)):=by
 intro aa s σ H Q I h;refine wpAny_isTrue_Compare1 (thn (ha aa s σ H _ I h) fun v s1 ⟨x,H1,I1,r1,q1⟩=>thn (hb aa s1 σ H1 _ I1 q1) fun u s2 ⟨y,H2,I2,r2,q2⟩=>
  thn (ho aa s2 σ H2 x y v u _ I2 r1 r2 q2) fun c s3 ⟨z,H3,I3,r3,k,e,q3⟩=>?_) hm
 subst e;cases r3;exact X1 ⟨H3,I3,q3⟩
theorem aQ{X:Cx}{a b:ZN}{ta tb:TE}{pos:Pos}{op:Su}{r:R2}(ho:OpR X (compareOp op) r)(ha:PE X a ta)(hb:PE X b tb)(hm:behindInMarks op b=false:=by exact wH _):PT X (.Compare a [op] [b] pos) (wj (tOp r ta tb)):=u_ ho ha hb hm
noncomputable def DK(r r':R2)(ta tb tc:TE):TE:=fun σ H Q=>ta σ H fun x H1=>tb σ H1 fun y H2=>r x y H2 fun z H3=>∃k,z=.bl k/\
 (if k=true then tc σ H3 fun w' H4=>r' y w' H4 Q else Q (.bl false) H3)
theorem zm{op G':Su}{r r':R2}(ho:OpR X (compareOp op) r)(EB:OpR X (compareOp G') r')(ha:PE X a ta)(hb:PE X b tb)(hc:PE X c tc)
  (hm:lastMarks [op,G'] [b,c]=false:=by with_unfolding_all rfl):PE X (.Compare a [op,G'] [b,c] pos) (DK r r' ta tb tc):=by
 intro aa s σ H Q I h;refine Compare_chain (thn (ha aa s σ H _ I h) fun v s1 ⟨x,H1,I1,r1,q1⟩=>chain_link (thn (hb aa s1 σ H1 _ I1 q1) fun u s2 ⟨y,H2,I2,r2,q2⟩=>
  thn (ho aa s2 σ H2 x y v u _ I2 r1 r2 q2) fun d s3 ⟨z,H3,I3,r3,k,e,q3⟩=>?_)) hm
 subst e;cases r3;refine X1 ?_;cases k with
 |false=>exact ite_ff ⟨.bl false,H3,I3,rfl,q3⟩
 |true=>exact ite_tt (chain_last (thn (hc aa s3 σ H3 _ I3 q3) fun w' s4 ⟨z',H4,I4,r4,q4⟩=>EB aa s4 σ H4 y z' u w' Q I4 r2 r4 q4))
theorem sZ:(sizeLine:Nat)<2^63:=by rw[XU];decide
theorem vals1{x:V}{us:List Value}(r:aR [x] us):∃u,us=[u]/\RelV x u:=by
 cases r with
 |cons r1 r2=>cases r2;exact⟨_,rfl,r1⟩
theorem vals2{x y:V}{us:List Value}(r:aR [x,y] us):∃u w',us=[u,w']/\RelV x u/\RelV y w':=by
 cases r with
 |cons r1 r2=>
  cases r2 with
  |cons r3 r4=>cases r4;exact⟨_,_,rfl,r1,r3⟩
theorem gM:dy X (.builtin "abs") (fun xs H Q=>∃i,xs=[.int i]/\Q (.int (if i<0 then -i else i)) H):=by
 intro aa s σ H xs us Q I r h;obtain⟨i,rfl,q⟩:=h;obtain⟨u,rfl,t,rfl⟩:=vals1 r;exact call_abs_int fun u tk=>⟨.int (if i<0 then -i else i),H,I.tok _,⟨_,rfl⟩,q⟩
theorem xz(hc:X.calm=true):dy X (.builtin "max") (fun xs H Q=>∃i j,xs=[.int i,.int j]/\Q (.int (if j>i then j else i)) H):=by
 intro aa s σ H xs us Q I r h;obtain⟨i,j,rfl,q⟩:=h;obtain⟨u,w',rfl,⟨t,rfl⟩,⟨t',rfl⟩⟩:=vals2 r;refine max_two_ints (I.ok.hd hc) fun h' tk k=>⟨_,H,I.kept k,?_,q⟩;by_cases hj:j>i
 ·rw[if_pos hj,if_pos hj];exact⟨_,rfl⟩
 ·rw[if_neg hj,if_neg hj];exact⟨_,rfl⟩
theorem yx(hc:X.calm=true):dy X (.builtin "min") (fun xs H Q=>∃i j,xs=[.int i,.int j]/\Q (.int (if j<i then j else i)) H):=by
 intro aa s σ H xs us Q I r h;obtain⟨i,j,rfl,q⟩:=h;obtain⟨u,w',rfl,⟨t,rfl⟩,⟨t',rfl⟩⟩:=vals2 r;refine min_two_ints (I.ok.hd hc) fun h' tk k=>⟨_,H,I.kept k,?_,q⟩;by_cases hj:j<i
 ·rw[if_pos hj,if_pos hj];exact⟨_,rfl⟩
 ·rw[if_neg hj,if_neg hj];exact⟨_,rfl⟩
end
end L2
namespace L2
open PySem PySem.Spec PyProof.Rows
section
variable{prog:Zv}{w:Zl}{A:ZK}{E:Value->Shared->Prop}{s:Shared}{K:Z3}{x dx C f:Addr}{mA:Str->Option Value}{name:Str}{v:Value}
end
theorem jd.some_of{v:V}{o:Option Value}(r:jd (some v) o):∃u,o=some u/\RelV v u:=by
 cases o with
 |none=>exact (show False from r).elim
 |some u=>exact⟨u,rfl,r⟩
section
variable{P:Zv}{w:Zl}{H H':Hp}{h h':ZF}{a C dx:Addr}{fs G_:List (Str×V)}
end
section
variable{X:Cx}{aa:List (Addr×Obj)}{σ:St}{H:Hp}{s:Shared}{a C dx:Addr}{fs:List (Str×V)}{f:Str}{v:V}{A:ZK}{E:Value->Shared->Prop}
end
noncomputable def Dh(X:Cx)(op:Sv)(rd:V->V->Hp->VK->Prop):Prop:=
 ∀(aa:List (Addr×Obj)) (s:Shared) (σ:St) (H:Hp) (x y:V) (u v:Value) (Q:VK),Inv X aa σ H s->RelV x u->RelV y v->rd x y H Q->Zq (model X.prog X.w) X.A (inplaceOp op u v) (EP X aa σ Q) X.xe s
section
variable{X:Cx}{o e value:ZN}{f:Str}{pos pos' Fb:Pos}{ta tv:TE}
noncomputable def rAdd:V->V->Hp->VK->Prop:=fun x y H Q=>∃i j,x=.int i/\y=.int j/\Q (.int (i+j)) H
theorem Do:Dh X .Add rAdd:=by
 rintro aa s σ H x y u v Q I rx ry ⟨i,j,rfl,rfl,q⟩;obtain⟨t,rfl⟩:=(show ∃t,u=Value.int i t from rx)
 obtain⟨t',rfl⟩:=(show ∃t',v=Value.int j t' from ry)
 exact S_ ⟨.int (i+j),H,I.tok _,⟨_,rfl⟩,q⟩
end
section
variable{X:Cx}{aa:List (Addr×Obj)}{σ:St}{H:Hp}{s:Shared}{A:ZK}{E:Value->Shared->Prop}{Q:Value->Shared->Prop}{c:Value}{b:Bool}
end
end L2
namespace L2
open PySem PySem.Spec PyProof.Rows
structure dJ(k:Nat)(A:ZK):Prop where
 hd:A.handled=none
 dp:A.depth+3*k+5<recursionLimit
 un:A.units+16*k+200<cLine
theorem dJ.mono{j k:Nat}{A:ZK}(r:dJ k A)(h:j<=k):dJ j A:=⟨r.hd,by have:=r.dp;lia,by have:=r.un;lia⟩
theorem dJ.deeper{k:Nat}{A:ZK}(r:dJ (k+1) A)(env:Env):dJ k (A.deeper env):=
 ⟨r.hd,by have:=r.dp;show A.depth+1+3*k+5<_;lia,by have:=r.un;show A.units+3+16*k+200<_;lia⟩
theorem dJ.depth{k:Nat}{A:ZK}(r:dJ k A):A.depth<recursionLimit:=by have:=r.dp;lia
noncomputable def j7:TA:=fun _ H Q=>Q [] H
noncomputable def dG(ta:TE)(tr:TA):TA:=fun σ H Q=>ta σ H fun x H1=>tr σ H1 fun xs H2=>Q (x::xs) H2
section
variable{X:Cx}{e:ZN}{es:List ZN}{te:TE}{t:TA}{pos:Pos}
theorem iI:PA X [] j7:=fun _ _ _ _ H Q I h=>V7 ⟨[],H,I,.nil,h⟩
theorem da(ha:PE X e te)(hr:PA X es t)(hs:Zp (e::es) X.env=(false,eval e X.env)::Zp es X.env:=by rfl):PA X (e::es) (dG te t):=by
 intro pos aa s σ H Q I h;rw[hs];show Zq _ _ (spliced ((false,eval e X.env)::backTo pos (Zp es X.env))) _ _ s;refine WT (thn (ha aa s σ H _ I h) fun u s1 zz=>?_);obtain⟨x,H1,I1,r1,q1⟩:=zz;exact thn (hr pos aa s1 σ H1 _ I1 q1) fun us s2 ⟨xs,H2,I2,r2,q2⟩=>⟨x::xs,H2,I2,.cons r1 r2,q2⟩
theorem pa1{X:Cx}{e:ZN}{te:TE}(ha:PE X e te)(hs:Zp [e] X.env=(false,eval e X.env)::Zp [] X.env:=by rfl):PA X [e] (dG te j7):=da ha iI hs
theorem pa2{X:Cx}{e d:ZN}{te td:TE}(ha:PE X e te)(hb:PE X d td)(hs:Zp [e,d] X.env=(false,eval e X.env)::Zp [d] X.env:=by rfl)(ht:Zp [d] X.env=(false,eval d X.env)::Zp [] X.env:=by rfl):PA X [e,d] (dG te (dG td j7)):=da ha (pa1 hb ht) hs
theorem pa3{X:Cx}{e d c:ZN}{te td tc:TE}(ha:PE X e te)(hb:PE X d td)(hc:PE X c tc)(hs:Zp [e,d,c] X.env=(false,eval e X.env)::Zp [d,c] X.env:=by rfl)(ht:Zp [d,c] X.env=(false,eval d X.env)::Zp [c] X.env:=by rfl)(hu:Zp [c] X.env=(false,eval c X.env)::Zp [] X.env:=by rfl):PA X [e,d,c] (dG te (dG td (dG tc j7))):=da ha (pa2 hb hc ht hu) hs
theorem pa4{X:Cx}{e d c b:ZN}{te td tc tb:TE}(ha:PE X e te)(hb:PE X d td)(hc:PE X c tc)(hd:PE X b tb)(hs:Zp [e,d,c,b] X.env=(false,eval e X.env)::Zp [d,c,b] X.env:=by rfl)(ht:Zp [d,c,b] X.env=(false,eval d X.env)::Zp [c,b] X.env:=by rfl)(hu:Zp [c,b] X.env=(false,eval c X.env)::Zp [b] X.env:=by rfl)(hv:Zp [b] X.env=(false,eval b X.env)::Zp [] X.env:=by rfl):PA X [e,d,c,b] (dG te (dG td (dG tc (dG tb j7)))):=da ha (pa3 hb hc hd ht hu hv) hs
noncomputable def tTup(t:TA):TE:=fun σ H Q=>t σ H fun xs H1=>xs.length<=sizeLine/\∀p,H1 p=none->Q (.ref p) (upd H1 p (.tup xs))
noncomputable def Dq(t:TA):TE:=fun σ H Q=>t σ H fun xs H1=>xs.length<=sizeLine/\∀p,H1 p=none->Q (.ref p) (upd H1 p (.lst xs))
theorem b8{x1}(h:PA X es t):PE X (.Tuple es x1 pos) (tTup t):=by
 intro aa s σ H Q I hq;refine U8 (thn (h pos aa s σ H _ I hq) fun us s1 ⟨xs,H1,I1,r,z,q⟩=>⟨by rw[<-r.length];exact z,?_⟩)
 have hf:H1 s1.heap.objs.size=none:=I1.hok.fresh (Nat.le_refl _);refine⟨.ref s1.heap.objs.size,upd H1 s1.heap.objs.size (.tup xs),I1.laid (t':=s1.toks) (fun b u e=>Z8 _ e) (Nat.le_refl _) ?_,rfl,q _ hf⟩;exact⟨z,us,r,⟨_,Zk _ rfl,rfl,_,rfl⟩⟩
theorem bK(h:PA X es t):PE X (.List es pos) (Dq t):=by
 intro aa s σ H Q I hq;refine wpAny_List_spliced (thn (h pos aa s σ H _ I hq) fun us s1 ⟨xs,H1,I1,r,z,q⟩=>⟨by rw[<-r.length];exact z,?_⟩)
 have hf:H1 s1.heap.objs.size=none:=I1.hok.fresh (Nat.le_refl _);refine⟨.ref s1.heap.objs.size,upd H1 s1.heap.objs.size (.lst xs),I1.laid (t':=s1.toks) (fun b u e=>Z8 _ e) (Nat.le_refl _) ?_,rfl,q _ hf⟩;exact⟨z,us,0,r,Zk _ rfl⟩
end
noncomputable abbrev Sp:=List V->Hp->VK->XK->Prop
noncomputable abbrev CXT:=List Env->Hp->Shared->XK->Value->Shared->Prop
structure oV(P:Zv)(w:Zl)(K:Z3)(mg:Str->Option Value)(base:ZF)(A:ZK)(outer:List Env)(s:Shared)(H:Hp):Prop where
 frames:A.frames=some outer
 mod:Mod K mg base
 bs:∀b o,base.get? b=some o->s.heap.get? b=some o/\H b=none
 bsz:base.objs.size<=s.heap.objs.size
 funs:s.heap.FunFrames base outer
 frf:∀b∈frs outer,H b=none
 hok:HOk P w H s.heap
 bare:Wa s.gens
noncomputable def CE(outer:List Env)(P:Zv)(w:Zl)(H:Hp)(s:Shared)(Q:VK)(u:Value)(s':Shared):Prop:=
 ∃v H',s'.os=s.os/\Wa s'.gens/\Un (frs outer) [] H H' s.heap s'.heap/\HOk P w H' s'.heap/\RelV v u/\Q v H'
noncomputable def CR(CX:CXT)(outer:List Env)(P:Zv)(w:Zl)(H:Hp)(s:Shared)(Q:VK)(E:XK)(r:VT)(s':Shared):Prop:=
 match r with
 | .ok (.ret u)=>CE outer P w H s Q u s'
 | .ok _=>False
 | .error e=>CX outer H s E e s'
structure aI(P:Zv)(w:Zl)(K:Z3)(mg:Str->Option Value)(base:ZF)(CX:CXT)(k:Nat)(f:Addr)(fd:Zf)(ps:List Str)(sp:Sp):Prop where
 len:∀vs H Q E,sp vs H Q E->vs.length=ps.length
 run:∀(A:ZK) (outer:List Env) (s:Shared) (H:Hp) (args:Args) (us:List Value) (vs:List V) (Q:VK) (E:XK),dJ k A->oV P w K mg base A outer s H->U7 s fd args (ps.zip us)->aR vs us->sp vs H Q E->
  Xd (model P w) A (.call (.ref f) args) (CR CX outer P w H s Q E) s
section
variable{X:Cx}{aa:List (Addr×Obj)}{σ:St}{H:Hp}{s s':Shared}
theorem Inv.env0(I:Inv X aa σ H s):oV X.prog X.w X.K X.mg X.base X.A X.stack s H:=
 ⟨I.ok.frames,I.ok.mod,I.bs,Nat.le_trans I.ok.bsz I.sz,I.stack,I.stkFree,I.hok,I.bare⟩
theorem Inv.after{Q:VK}{u:Value}(I:Inv X aa σ H s)(h:CE X.stack X.prog X.w H s Q u s'):EP X aa σ Q u s':=by
 obtain⟨v,H',os,bare,un,hok,r,q⟩:=h;obtain⟨hh,g,d,t,os'⟩:=s';obtain rfl:os'=s.os:=os;exact⟨v,H',I.call (h':=hh) (g':=g) (d':=d) (t':=t) (ch:=[]) un hok bare (fun b z=>absurd z (by simp)),r,q⟩
end
noncomputable def jK(sp:Sp)(F_:List V)(E:XK)(t:TA):TE:=fun σ H Q=>t σ H fun vs H1=>sp (vs++F_) H1 Q E
noncomputable def Binds(K:Z3)(fd:Zf)(ps:List Str)(ds:List Value):Prop:=
 ∀(s:Shared) (us:List Value),K.In s.heap->(us++ds).length=ps.length->U7 s fd ⟨us,[]⟩ (ps.zip (us++ds))
theorem Binds.all{K:Z3}{fd:Zf}{ps:List Str}(h:∀us:List Value,us.length=ps.length->bindArgs fd ⟨us,[]⟩=pure (ps.zip us)):Binds K fd ps []:=fun s us _ hl=>by
 rw[ZT]at hl ⊢;exact .of_eq (h us hl)
noncomputable def jt(CX:CXT)(X:Cx)(E:XK):Prop:=∀(aa:List (Addr×Obj)) (σ:St) (H:Hp) (s:Shared) (e:Value) (s':Shared),Inv X aa σ H s->CX X.stack H s E e s'->X.xe e s'
section
variable{X:Cx}{CX:CXT}{k:Nat}{f C:Addr}{fd:Zf}{ps:List Str}{sp:Sp}{F_:List V}{ds:List Value}{E:XK}{x m:Str}{p pos apos:Pos}{e o:ZN}{es:List ZN}{ta:TE}{t:TA}
theorem CD{aa:List (Addr×Obj)}{σ:St}{H:Hp}{s:Shared}{Q:VK}{us:List Value}{vs:List V}(F:aI X.prog X.w X.K X.mg X.base CX k f fd ps sp)(hr:dJ k X.A)(hb:Binds X.K fd ps ds)(hd:aR F_ ds)(hx:jt CX X E)
  (I:Inv X aa σ H s)(r:aR vs us)(h:sp (vs++F_) H Q E):Zq (model X.prog X.w) X.A (call (.ref f) us) (EP X aa σ Q) X.xe s:=by
 have r2:aR (vs++F_) (us++ds):=r.append hd;have hl:(us++ds).length=ps.length:=by rw[<-r2.length];exact F.len _ _ _ _ h
 refine Vh (X_ (F.run X.A X.stack s H ⟨us,[]⟩ (us++ds) (vs++F_) Q E hr I.env0 (hb s us I.kIn hl) r2 h) fun r s' hq=>?_);cases r with
 |error e=>exact hx aa σ H s e s' I hq
 |ok fl=>
  cases fl with
  |ret u=>exact I.after hq
  |next=>exact False.elim hq
  |brk=>exact False.elim hq
  |cont=>exact False.elim hq
theorem uW(F:aI X.prog X.w X.K X.mg X.base CX k f fd ps sp)(hr:dJ k X.A)(hg:Gl X x)(hm:X.mg x=some (.ref f))(hk:Yl X.K (.ref f)=true)(hb:Binds X.K fd ps ds)(hd:aR F_ ds)(hx:jt CX X E)
  (ha:PA X (e::es) t)(EL:(x==("__debug__" : Str))=false:=by decide)(he:Zp (e::es) X.env=(false,eval e X.env)::Zp es X.env:=by rfl)(EC:(backTo pos (Zp es X.env)).any (·.1)=false:=by rfl):
  PE X (.Call (.Name x p) (e::es) [] pos) (jK sp F_ E t):=by
 intro aa s σ H Q I h;refine Yh (iq I hg hm ?_ EL);refine WU (h₀:=X.base) I.ok.mod.kin hk (thn (ha pos aa s σ H _ I h) fun us s1 ⟨vs,H1,I1,r,q⟩=>⟨I1.kIn,?_⟩) he EC;exact CD F hr hb hd hx I1 r q
end
section
variable{X:Cx}{CX:CXT}{k:Nat}{f C:Addr}{fd:Zf}{ps ks:List Str}{sp:Sp}{E:XK}{x m:Str}{p pos apos kpos:Pos}{e o:ZN}{es:List ZN}{kws:List S0}{te ta:TE}{t tk:TA}{nm:Option Str}
variable{g:List Value->List Value->List Value}{gV:List V->List V->List V}
end
structure aD(N P:List Str)(sc:XQ):Prop where
 kind:sc.kind=.function
 co:sc.isCoroutine=false
 gen:sc.isGenerator=false
 nd:N.Nodup
 pre:N.take P.length=P
 par:∀x∈P,sc.names.lookup x=some .local\/sc.names.lookup x=some .cell
 nofree:∀y∈sc.names,y.2≠.free
theorem aD.mk'{N P:List Str}{sc:XQ}(a:sc.kind=.function:=by rfl)(b:sc.isCoroutine=false:=by rfl)(c:sc.isGenerator=false:=by rfl)(d:N.Nodup:=by decide +kernel)(e:N.take P.length=P:=by rfl)(f:∀x∈P,sc.names.lookup x=some .local\/sc.names.lookup x=some .cell:=by decide +kernel)(g:∀y∈sc.names,y.2≠.free:=by decide +kernel):aD N P sc:=⟨a,b,c,d,e,f,g⟩
theorem o7{kindOf:Str->Option W8}{x:Str}:∀{binds:List (Str×Value)} {m:Str->Option Value},(∀v,(x,v)∉binds)->bindL kindOf binds m x=m x
 | [],_,_=>rfl
 | (n,v)::r,m,h=>by
  unfold bindL;rw[o7 fun w hw=>h w (Zo _ hw)]
  split
  ·have:x≠n:=by rintro rfl;exact h v Za
   simp[this]
  ·rfl
theorem po{kindOf:Str->Option W8}{x:Str}:∀{binds:List (Str×Value)} {m:Str->Option Value},(∀v,(x,v)∉binds)->bindC kindOf binds m x=m x
 | [],_,_=>rfl
 | (n,v)::r,m,h=>by
  unfold bindC;rw[po fun w hw=>h w (Zo _ hw)]
  split
  ·rfl
  ·have:x≠n:=by rintro rfl;exact h v Za
   simp[this]
theorem kh{kindOf:Str->Option W8}{x:Str}{v:Value}:∀{P:List Str} {vs:List Value} {i:Nat} {m:Str->Option Value},P.Nodup->P[i]?=some x->vs[i]?=some v->kindOf x=some .local->
  bindL kindOf (P.zip vs) m x=some v
 | [],_,_,_,_,h,_,_=>by simp at h
 |_::_,[],_,_,_,_,h,_=>by simp at h
 |p::P,w::vs,0,m,nd,h1,h2,hk=>by
  simp at h1 h2;subst h1;subst h2;show bindL kindOf ((p,w)::P.zip vs) m p=_;unfold bindL;rw[o7 fun v hv=>(Xs.mp nd).1 (WH hv).1,if_pos hk];simp
 |p::P,w::vs,i+1,m,nd,h1,h2,hk=>by
  show bindL kindOf ((p,w)::P.zip vs) m x=_;unfold bindL;exact kh (i:=i) (Xs.mp nd).2 (by simpa using h1) (by simpa using h2) hk
theorem kE{kindOf:Str->Option W8}{x:Str}{v:Value}:∀{P:List Str} {vs:List Value} {i:Nat} {m:Str->Option Value},P.Nodup->P[i]?=some x->vs[i]?=some v->kindOf x≠some .local->
  bindC kindOf (P.zip vs) m x=some v
 | [],_,_,_,_,h,_,_=>by simp at h
 |_::_,[],_,_,_,_,h,_=>by simp at h
 |p::P,w::vs,0,m,nd,h1,h2,hk=>by
  simp at h1 h2;subst h1;subst h2;show bindC kindOf ((p,w)::P.zip vs) m p=_;unfold bindC;rw[po fun v hv=>(Xs.mp nd).1 (WH hv).1,if_neg hk];simp
 |p::P,w::vs,i+1,m,nd,h1,h2,hk=>by
  show bindC kindOf ((p,w)::P.zip vs) m x=_;unfold bindC;exact kE (i:=i) (Xs.mp nd).2 (by simpa using h1) (by simpa using h2) hk
noncomputable def start(N:List Str)(vs:List V):St:=vs.map some++WV (N.length-vs.length) none
noncomputable def fQ(CX:CXT)(P:Zv)(w:Zl)(K:Z3)(mg:Str->Option Value)(base:ZF)(N:List Str)(qual:Str)(scope:XQ)(f:Addr)(cd:Value)(A:ZK)(outer:List Env)(s:Shared)(H:Hp)(E:XK):Cx where
 prog:=P
 w:=w
 K:=K
 mg:=mg
 base:=base
 A:=A.deeper (envOfC qual scope s.heap.objs.size f cd)
 N:=N
 s₀:=s
 H₀:=H
 env:=envOfC qual scope s.heap.objs.size f cd
 outer:=outer
 stack:=envOfC qual scope s.heap.objs.size f cd::outer
 ex:=[]
 calm:=true
 fn:=fun _=>true
 pn:=[]
 xe:=fun e s'=>Zq (model P w) (A.deeper (envOfC qual scope s.heap.objs.size f cd)) (leaving (envOfC qual scope s.heap.objs.size f cd) e) (fun _ EX=>CX outer H s E e EX) (fun e' EX=>CX outer H s E e' EX) s'
theorem jR{sc:XQ}{n:Nat}{x:Str}(h:sc.names.lookup x=some .cell):∃c,(cellsFrom n sc.names []).lookup x=some c:=by
 have q:=Wr sc.names n [] (.inl h);exact W9.mp q
theorem yo{CX:CXT}{P:Zv}{w:Zl}{K:Z3}{mg:Str->Option Value}{base:ZF}{N ps:List Str}{qual:Str}{scope:XQ}{f:Addr}{cd:Value}{A:ZK}{outer:List Env}{s s1:Shared}{H:Hp}{E:XK}{us:List Value}{vs:List V}
  (S:aD N ps scope)(hd:A.handled=none)(e0:oV P w K mg base A outer s H)(hl:vs.length=ps.length)(r:aR vs us)
  (x:InCallC s s.heap.objs.size (bindL (envOfC qual scope s.heap.objs.size f cd).kindOf (ps.zip us) fun _=>none) (cellsFrom (s.heap.objs.size+1) scope.names []) (bindC (envOfC qual scope s.heap.objs.size f cd).kindOf (ps.zip us) fun _=>none) s1):
  Inv (fQ CX P w K mg base N qual scope f cd A outer s H E) [] (start N vs) H s1:=by
 have EC:ps.length<=N.length:=by have:=Y_ Wv S.pre;rw[Zi]at this;lia
 obtain⟨h1,tk,rfl,hk⟩:=x.done;have noA:∀b:Addr,b∉(fQ CX P w K mg base N qual scope f cd A outer s H E).ex:=fun b z=>absurd (show b∈([]:List Addr) from z) (by simp)
 refine⟨⟨e0.mod,S.kind,rfl,rfl,Nat.le_refl _,fun y z c h1 h2=>?_,fun y hy=>?_,fun y c _ h=>?_,fun _=>hd,VU e0.frames,.inr ⟨rfl,rfl⟩,fun b z=>absurd z (noA b),e0.bs,e0.bsz,fun b _ _=>noA b,fun b z=>absurd z (noA b),e0.funs,e0.frf⟩,
  rfl,e0.bare,Un.kept hk,⟨_,x.toInCall.ns,fun i y v h1 h2 h3=>?_⟩,fun y c h=>⟨_,x.cell y c h⟩,e0.hok.fresh (Nat.le_refl _),fun y c h=>?_,fun p hp=>absurd (show p∈([]:List (Addr×Obj)) from hp) (by simp),e0.hok.kept hk,?_⟩
 ·exact S3 x.apart (ZR h1) (ZR h2)
 ·have hy:scope.names.lookup y=some .cell\/scope.names.lookup y=some .free:=hy;rcases hy with hy|hy
  ·exact jR hy
  ·exact absurd rfl (S.nofree _ (ZR hy))
 ·exact Nat.le_of_lt (x.above y c (ZR h))
 ·have hi:i<vs.length:=by
   unfold start at h2;by_cases hi:i<vs.length
   ·exact hi
   ·rw[Y1 (by simpa using hi)]at h2
    rw[X2]at h2
    split at h2<;>cases h2
  have ha:vs[i]?=some v:=by
   unfold start at h2;rw[ZL (by simpa using hi),Zn]at h2
   cases e:vs[i]? with
   |none=>rw[e]at h2;cases h2
   |some a=>rw[e]at h2;cases h2;rfl
  obtain⟨u,hu,rv⟩:=r.get ha;have hp:ps[i]?=some y:=by
   rw[<-S.pre,Yx (by lia)];exact h1
  have ndP:ps.Nodup:=by rw[<-S.pre];exact S.nd.sublist (Ug _ _)
  refine⟨u,rv,?_⟩;rcases S.par y (WC hp) with k|k
  ·exact .inl ⟨k,kh ndP hp hu k⟩
  ·obtain⟨c,e⟩:=jR (n:=s.heap.objs.size+1) k;refine .inr ⟨.inl k,c,e,?_⟩;have q:=x.cell y c e;rw[kE ndP hp hu (by show scope.names.lookup y≠_;rw[k];decide)]at q
   exact q
 ·exact e0.hok.fresh (Nat.le_of_lt (x.above y c (ZR h)))
 ·unfold start;show _=N.length;rw[Z5,Z6,XI];lia
theorem AB{CX:CXT}{P:Zv}{w:Zl}{K:Z3}{mg:Str->Option Value}{base:ZF}{k:Nat}{f:Addr}{name qual:Str}{params:TV}{body:List Stmt}{scope:XQ}{dV kV doc pm E3 ct oc:Value}{an od:Option Addr}
  {Fl:Array (Option Value)}{N ps:List Str}{sp:Sp}(lk:K.lookup f=some ⟨oc,od,.func (YO name qual params body scope dV kV doc pm an E3 ct),Fl⟩)(F0:Wq K E3 qual=true)(S:aD N ps scope)
  (len:∀vs H Q E,sp vs H Q E->vs.length=ps.length)
  (EG:∀(A:ZK) (outer:List Env) (s:Shared) (H:Hp) (vs:List V) (Q:VK) (E:XK),dJ k (A.deeper (envOfC qual scope s.heap.objs.size f E3))->sp vs H Q E->
   ∃t,PSs (fQ CX P w K mg base N qual scope f E3 A outer s H E) body t/\t {nx:=fun _ H'=>Q .non H',rt:=Q} (start N vs) H):
  aI P w K mg base CX (k+1) f (YO name qual params body scope dV kV doc pm an E3 ct) ps sp:=by
 refine⟨len,fun A outer s H args us vs Q E hr e0 hb r F1=>?_⟩;have hl:=len _ _ _ _ F1;have KX:K.In s.heap:=e0.mod.kin.keeps fun b o e=>(e0.bs b o e).1;have lim:s.heap.NoLimit:=e0.mod.nolimit.keeps fun b o e=>(e0.bs b o e).1;have hkind:∀y∈ps.zip us,scope.names.lookup y.1=some .local\/(scope.names.lookup y.1=some .cell/\((cellsFrom (s.heap.objs.size+1) scope.names []).lookup y.1).isSome=true):=fun ⟨n,v⟩ hy=>by
  rcases S.par n (WH hy).1 with q|q
  ·exact .inl q
  ·exact .inr ⟨q,Wr _ _ _ (.inl q)⟩
 refine VH hr.depth (KX _ _ lk) rfl S.co S.gen rfl (Us KX F0) (hb _ _ _ _ ?_);refine WW S.kind hkind fun env he s1 x=>?_;subst he;refine⟨lim.keeps x.toInCall.keep,S4 ?_⟩;obtain⟨t,ht,hq⟩:=EG A outer s H vs Q E (hr.deeper _) F1;have I:Inv (fQ CX P w K mg base N qual scope f E3 A outer s H E) [] (start N vs) H s1:=yo S hr.hd e0 hl r x;refine Y0 (ht [] s1 (start N vs) H _ I hq) (fun fl s' hs=>?_) fun e s' hs=>hs;have fin:∀{σ':St} {H':Hp} {v:V} {u:Value},Inv (fQ CX P w K mg base N qual scope f E3 A outer s H E) [] σ' H' s'->RelV v u->Q v H'->CE outer P w H s Q u s':=
  fun {σ' H' v u} J rv q=>⟨v,H',J.os,J.bare,J.base,J.hok,rv,q⟩
 cases fl with
 |ret u=>
  obtain⟨v,σ',H',J,rv,q⟩:=hs;exact fin J rv q
 |next=>
  obtain⟨σ',H',J,q⟩:=hs;exact fin (v:=V.non) (u:=Value.none) J rfl q
 |brk=>
  obtain⟨_,_,_,q⟩:=hs;exact False.elim q
 |cont=>
  obtain⟨_,_,_,q⟩:=hs;exact False.elim q
end L2
namespace L2
open PySem PySem.Spec PyProof.Rows
section
variable{X:Cx}{x:Str}{p pos:Pos}{e:ZN}{es:List ZN}{t:TA}{id T:String}{r:List V->Hp->VK->Prop}
noncomputable def tCB(r:List V->Hp->VK->Prop)(t:TA):TE:=fun σ H Q=>t σ H fun vs H1=>r vs H1 Q
theorem aN(hc:dy X (.builtin id) r)(hg:Gl X x)(hm:X.mg x=none)(hv:bootBuiltins x=some (.builtin id))(ha:PA X (e::es) t)(hn:x ≠ "__name__" :=by decide)(EL:(x==("__debug__" : Str))=false:=by decide)
  (he:Zp (e::es) X.env=(false,eval e X.env)::Zp es X.env:=by rfl)(EC:(backTo pos (Zp es X.env)).any (·.1)=false:=by rfl):PE X (.Call (.Name x p) (e::es) [] pos) (tCB r t):=by
 intro aa s σ H Q I h;refine Yh (fG I hg hm hv ?_ hn EL);exact UE (thn (ha pos aa s σ H _ I h) fun us s1 ⟨vs,H1,I1,r1,q1⟩=>hc aa s1 σ H1 vs us Q I1 r1 q1) he EC
theorem fC(hc:dy X (.type T) r)(hg:Gl X x)(hm:X.mg x=none)(hv:bootBuiltins x=some (.type T))(ha:PA X (e::es) t)(hn:x ≠ "__name__" :=by decide)(EL:(x==("__debug__" : Str))=false:=by decide)
  (he:Zp (e::es) X.env=(false,eval e X.env)::Zp es X.env:=by rfl)(EC:(backTo pos (Zp es X.env)).any (·.1)=false:=by rfl):PE X (.Call (.Name x p) (e::es) [] pos) (tCB r t):=by
 intro aa s σ H Q I h;refine Yh (fG I hg hm hv ?_ hn EL);exact ZV (thn (ha pos aa s σ H _ I h) fun us s1 ⟨vs,H1,I1,r1,q1⟩=>hc aa s1 σ H1 vs us Q I1 r1 q1) he EC
end
end L2
namespace HT
open PySem PyProof.Rows
section
open PySem.SeqAt
open PySem.AutoSeq1 (wpAny_loadPart')
open PySem.MeetsSeq PySem.MeetsSeq2 PySem.MeetsSeq3
end
section
variable{prog:Zv}{w:Zl}{A:ZK}{E:Value->Shared->Prop}{s:Shared}
noncomputable def sIx(n d:Nat):Option Int->Nat
 |none=>d
 |some v=>if v<0 then (v+(n:Int)).toNat else min v.toNat n
theorem sIx_none(n d:Nat):sIx n d none=d:=rfl
theorem sIx_nat(n d k:Nat):sIx n d (some (k:Int))=min k n:=by
 show (if (k:Int)<0 then ((k:Int)+(n:Int)).toNat else min (k:Int).toNat n)=min k n
 rw[if_neg (by lia),Int.toNat_natCast]
end
end HT
namespace L2
open PySem PySem.Spec PyProof.Rows
noncomputable abbrev TO:=St->Hp->(Option Int->Hp->Prop)->Prop
noncomputable def PO(X:Cx)(e:Option ZN)(t:TO):Prop:=
 ∀(aa:List (Addr×Obj)) (s:Shared) (σ:St) (H:Hp) (Q:Option Int->Hp->Prop),Inv X aa σ H s->t σ H Q->
  Zq (model X.prog X.w) X.A (evalPart e X.env) (fun u s'=>∃o H',Inv X aa σ H' s'/\IsPart u o/\Q o H') X.xe s
noncomputable def og:TO:=fun _ H Q=>Q none H
noncomputable def wa(t:TE):TO:=fun σ H Q=>t σ H fun x H1=>∃i,x=.int i/\Q (some i) H1
section
variable{X:Cx}{e:ZN}{te:TE}{lo hi:Option ZN}{tl th:TO}{pos p2:Pos}
theorem cN:PO X none og:=by
 intro aa s σ H Q I h;rw[TF];exact Z7 ⟨none,H,I,.none,h⟩
theorem bP(h:PE X e te):PO X (some e) (wa te):=by
 intro aa s σ H Q I hw;rw[evalPart_some];refine thn (h aa s σ H _ I hw) fun u s1 zz=>?_;obtain⟨x,H1,I1,r1,q1⟩:=zz;obtain⟨i,rfl,q⟩:=q1;obtain⟨t,rfl⟩:=r1;exact⟨some i,H1,I1,.int i t,q⟩
noncomputable def SlR(X:Cx)(r:V->Option Int->Option Int->Hp->VK->Prop):Prop:=
 ∀(aa:List (Addr×Obj)) (s:Shared) (σ:St) (H:Hp) (x:V) (v vl vu:Value) (lo hi:Option Int) (sl:Addr) (Q:VK),Inv X aa σ H s->RelV x v->s.heap.IsSliceOf sl vl vu .none->IsPart vl lo->IsPart vu hi->r x lo hi H Q->
  ∃T id,typeLookup (.type T) "__getitem__" = pure (some (.builtin id))/\s.TypeIs v T/\Zq (model X.prog X.w) X.A (getItem v (.ref sl)) (EP X aa σ Q) X.xe s
noncomputable def tSl(r:V->Option Int->Option Int->Hp->VK->Prop)(te:TE)(tl th:TO):TE:=fun σ H Q=>te σ H fun x H1=>tl σ H1 fun l H2=>th σ H2 fun u H3=>r x l u H3 Q
theorem bH{r:V->Option Int->Option Int->Hp->VK->Prop}(hr:SlR X r)(he:PE X e te)(hl:PO X lo tl)(hu:PO X hi th):PE X (.Subscript e (.Slice lo hi none p2) pos) (tSl r te tl th):=by
 intro aa s σ H Q I h;refine UV (thn (he aa s σ H _ I h) fun v s1 zz=>?_);obtain⟨x,H1,I1,r1,q1⟩:=zz;refine wpAny_Slice (thn (hl aa s1 σ H1 _ I1 q1) fun vl s2 ⟨l,H2,I2,pl,q2⟩=>thn (hu aa s2 σ H2 _ I2 q2) fun vu s3 zz=>?_);obtain⟨u,H3,I3,pu,q3⟩:=zz;rw[TF];refine Z7 ?_;have I4:Inv X aa σ H3 {s3 with heap:=s3.heap.push {cls:=.type "slice",data:=.fields #[vl,vu,.none]}}:=I3.kept (t':=s3.toks) fun b ob q=>Z8 _ q
 obtain⟨T,id,hT,ht,hg⟩:=hr aa {s3 with heap:=s3.heap.push {cls:=.type "slice",data:=.fields #[vl,vu,.none]}} σ H3 x v vl vu l u s3.heap.objs.size Q I4 r1 (Heap.IsSliceOf.new ..) pl pu q3
 show Zq (model X.prog X.w) X.A (subscriptTail e (.Slice lo hi none p2) v (.ref s3.heap.objs.size)) (EP X aa σ Q) X.xe {s3 with heap:=s3.heap.push {cls:=.type "slice",data:=.fields #[vl,vu,.none]}}
 exact tail_any (ops:=[.ref s3.heap.objs.size,v]) ht hT hg (by with_unfolding_all rfl)
noncomputable def bj(xs:List V)(lo hi:Option Int):List V:=(xs.drop (HT.sIx xs.length 0 lo)).take (HT.sIx xs.length xs.length hi-HT.sIx xs.length 0 lo)
theorem ua(xs:List V)(lo hi:Option Int):(bj xs lo hi).length<=xs.length:=by
 unfold bj;rw[Zi,Zu];lia
end
end L2
namespace L2
open PySem PySem.Spec PyProof.Rows
noncomputable def ixN(n:Nat)(i:Int):Option Nat:=if 0<=i then (if i<n then some i.toNat else none) else if -(n:Int)<=i then some (i+n).toNat else none
noncomputable def atI{α:Type}(xs:List α)(i:Int):Option α:=(ixN xs.length i).bind fun j=>xs[j]?
theorem A8{n:Nat}{i:Int}{j:Nat}(h:ixN n i=some j):seqIndex? i n=some j/\j<n/\-(n:Int)<=i/\i<n:=by
 unfold ixN at h;by_cases h0:0<=i
 ·rw[if_pos h0]at h;by_cases h1:i<n
  ·rw[if_pos h1]at h;have e:i.toNat=j:=ZH h;exact⟨by rw[Ss h0 h1,e],by lia,by lia,h1⟩
  ·rw[if_neg h1]at h;cases h
 ·rw[if_neg h0]at h;by_cases h1:-(n:Int)<=i
  ·rw[if_pos h1]at h;have e:(i+n).toNat=j:=ZH h;exact⟨by rw[seqIndex_neg (by lia) h1,e],by lia,h1,by lia⟩
  ·rw[if_neg h1]at h;cases h
theorem va{α:Type}{xs:List α}{i:Int}{v:α}(h:atI xs i=some v):∃j,seqIndex? i xs.length=some j/\xs[j]?=some v/\j<xs.length/\-(xs.length:Int)<=i/\i<xs.length:=by
 unfold atI at h;cases e:ixN xs.length i with
 |none=>rw[e]at h;cases h
 |some j=>
  rw[e]at h;obtain⟨h1,h2,h3,h4⟩:=A8 e;exact⟨j,h1,h,h2,h3,h4⟩
theorem c8{α:Type}{xs:List α}{j:Nat}{v:α}(h:xs[j]?=some v):atI xs (j:Int)=some v:=by
 have hj:j<xs.length:=(Zh.mp h).1;have e:ixN xs.length (j:Int)=some j:=by
  unfold ixN;rw[if_pos (by lia),if_pos (by lia)];simp
 unfold atI;rw[e];exact h
noncomputable def uT(b:ZN):Prop:=∀o i,subscripted b false o i=operate [o,i] (getItem o i)
noncomputable def IxR(X:Cx)(r:R2):Prop:=
 ∀(value slice:ZN) (aa:List (Addr×Obj)) (s:Shared) (σ:St) (H:Hp) (x y:V) (v u:Value) (Q:VK),Inv X aa σ H s->RelV x v->RelV y u->r x y H Q->
  subscripted slice false v u=operate [v,u] (getItem v u)->Zq (model X.prog X.w) X.A (subscriptTail value slice v u) (EP X aa σ Q) X.xe s
noncomputable def MtR(X:Cx)(id:String)(r:V->List V->Hp->VK->Prop):Prop:=
 ∀(aa:List (Addr×Obj)) (s:Shared) (σ:St) (H:Hp) (x:V) (xs:List V) (v:Value) (us:List Value) (Q:VK),Inv X aa σ H s->RelV x v->aR xs us->r x xs H Q->
  Zq (model X.prog X.w) X.A (call (.builtin id) (v::us)) (EP X aa σ Q) X.xe s
section
variable{X:Cx}{a b:ZN}{ta tb:TE}{pos:Pos}
theorem AL{r:R2}(hr:IxR X r)(ha:PE X a ta)(hb:PE X b tb)(hs:uT b):PE X (.Subscript a b pos) (tOp r ta tb):=by
 intro aa s σ H Q I h;exact UV (zv ha hb I h fun v u s2 x y H2 I2 rx ry q=>hr a b aa s2 σ H2 x y v u Q I2 rx ry q (hs _ _))
theorem ak{X:Cx}{a b:ZN}{ta tb:TE}{pos:Pos}{r:R2}(hr:IxR X r)(ha:PE X a ta)(hb:PE X b tb)(hs:uT b:=by exact fun _ _=>rfl):PE X (.Subscript a b pos) (tOp r ta tb):=AL hr ha hb hs
noncomputable def y8(K:Z3):R2:=fun x y H Q=>∃p xs i v,x=.ref p/\y=.int i/\SqL K H p xs/\atI xs i=some v/\Q v H
noncomputable def ou(K:Z3):R2:=fun x y H Q=>∃p xs i v,x=.ref p/\y=.int i/\SqT K H p xs/\atI xs i=some v/\Q v H
theorem aH:IxR X (y8 X.K):=by
 intro value slice aa s σ H x y v u Q I rx ry h hs;obtain⟨p,xs,i,z,rfl,rfl,hq,he,q⟩:=h;cases rx;obtain⟨t,rfl⟩:=ry;obtain⟨C',r,pl,hz⟩:=I.list hq;obtain⟨j,h1,h2,h3,h4,h5⟩:=va he;obtain⟨w,ew,rw'⟩:=r.get h2;have hl:=r.length;have hn:=sZ;have fin:EP X aa σ Q w s:=⟨z,H,I,rw',q⟩;by_cases h0:0<=i
 ·have hj:i.toNat=j:=by
   rw[Ss h0 h5]at h1;exact ZH h1
  exact item_listR pl.isList h0 (by lia) (by rw[hj];simpa using ew) fin hs
 ·have hj:(i+(C'.toArray.size:Int)).toNat=j:=by
   rw[seqIndex_neg (by lia) h4]at h1
   rw[Zs,<-hl];exact ZH h1
  exact Vg (x:=w) pl.isList.typeIs slot_list_getitem.lookup
   (wpAny_getItem_list_neg (Q:=fun r s'=>r=w/\EP X aa σ Q r s') pl.isList (by lia) (by rw[Zs]<;>lia) (by lia) (by rw[hj];simpa using ew) ⟨rfl,fin⟩) hs
theorem ax:IxR X (ou X.K):=by
 intro value slice aa s σ H x y v u Q I rx ry h hs;obtain⟨p,xs,i,z,rfl,rfl,hq,he,q⟩:=h;cases rx;obtain⟨t,rfl⟩:=ry;obtain⟨C',r,pl,hz⟩:=I.tuple hq;obtain⟨j,h1,h2,h3,h4,h5⟩:=va he;obtain⟨w,ew,rw'⟩:=r.get h2;have hl:=r.length;have hn:=sZ;have fin:EP X aa σ Q w s:=⟨z,H,I,rw',q⟩;exact Vg (x:=w) pl.typeIs slot_tuple_getitem.lookup
  (getItem_tuple (j:=j) (Q:=fun r s'=>r=w/\EP X aa σ Q r s') pl (by lia) (by lia) (by rw[Zs,<-hl];exact h1) (by simpa using ew) ⟨rfl,fin⟩) hs
theorem qY(lo hi:Option Int)(n:Nat):(sliceBounds lo hi none n).1=((HT.sIx n 0 lo:Nat):Int)/\(sliceBounds lo hi none n).2.1=((HT.sIx n n hi:Nat):Int)/\(sliceBounds lo hi none n).2.2=1:=by
 refine⟨?_,?_,rfl⟩
 ·cases lo with
  |none=>simp[sliceBounds,HT.sIx]
  |some i=>
   simp only[sliceBounds,HT.sIx,UF,show (1:Int)>0 by decide,XR]
   by_cases h:i<0
   ·simp only[h,XR]<;>lia
   ·simp only[h,if_false]<;>lia
 ·cases hi with
  |none=>simp[sliceBounds,HT.sIx]
  |some i=>
   simp only[sliceBounds,HT.sIx,UF,show (1:Int)>0 by decide,XR]
   by_cases h:i<0
   ·simp only[h,XR]<;>lia
   ·simp only[h,if_false]<;>lia
theorem qd(C':List Value)(lo hi:Option Int):slicePick C'.toArray lo hi none=((C'.drop (HT.sIx C'.length 0 lo)).take (HT.sIx C'.length C'.length hi-HT.sIx C'.length 0 lo)).toArray:=by
 obtain⟨h1,h2,h3⟩:=qY lo hi C'.toArray.size;unfold slicePick;rw[h1,h2,h3];simp only[sliceRange_one,pick_run,Zs]<;>rfl
noncomputable def Ar(K:Z3):V->Option Int->Option Int->Hp->VK->Prop:=fun x lo hi H Q=>∃a xs,x=.ref a/\SqL K H a xs/\∀p,H p=none->Q (.ref p) (upd H p (.lst (bj xs lo hi)))
theorem bZ:SlR X (Ar X.K):=by
 intro aa s σ H x v vl vu lo hi sl Q I rx hs pl pu h;obtain⟨a,xs,rfl,hx,q⟩:=h;cases rx;obtain⟨C',r,ht,hz⟩:=I.list hx;have hlen:=r.length;refine⟨"list",_,slot_list_getitem.lookup,ht.isList.typeIs,?_⟩;refine wpAny_getItem_list_slice ht.isList hs pl pu .none (by simp) ?_ (by rw[Zs]<;>lia)
 rw[qd,<-hlen];refine⟨.ref s.heap.objs.size,_,I.laid (t':=s.toks) (o:=.lst (bj xs lo hi)) (fun b ob q=>Z8 _ q) (Nat.le_refl _) ?_,rfl,q _ (I.hok.fresh (Nat.le_refl _))⟩;exact⟨Nat.le_trans (ua xs lo hi) hz,_,0,(r.drop (HT.sIx xs.length 0 lo)).take (HT.sIx xs.length xs.length hi-HT.sIx xs.length 0 lo),Zk _ rfl⟩
noncomputable def qp:V->Bool
 | .non=>true
 | .bl _=>true
 | .int _=>true
 | .str _=>true
 |_=>false
noncomputable def eqV:V->V->Bool
 | .non,.non=>true
 | .bl a,.bl b=>a==b
 | .bl a,.int b=>(if a then 1 else 0)==b
 | .int a,.bl b=>a==(if b then 1 else 0)
 | .int a,.int b=>a==b
 | .str a,.str b=>a==b
 |_,_=>false
theorem qB{A:ZK}{s:Shared}{y x:V}{u v:Value}(ry:RelV y u)(rx:RelV x v)(fy:qp y=true)(fx:qp x=true):SeqAt.EqAt A s u v (eqV y x):=by
 cases y with
 |non=>
  cases ry;cases x with
  |non=>cases rx;exact UN _
  |bl b=>cases rx;exact Sr b
  |int b=>obtain⟨t,rfl⟩:=rx;exact Sf b t
  |str b=>obtain⟨t,rfl⟩:=rx;exact Se b t
  |_=>exact absurd (show false=true from fx) Zm
 |bl a=>
  cases ry;cases x with
  |non=>cases rx;exact Sq a
  |bl b=>cases rx;exact So a b
  |int b=>obtain⟨t,rfl⟩:=rx;exact Sd a b t
  |str b=>obtain⟨t,rfl⟩:=rx;exact Sc a b t
  |_=>exact absurd (show false=true from fx) Zm
 |int a=>
  obtain⟨t',rfl⟩:=ry;cases x with
  |non=>cases rx;exact Sb a t'
  |bl b=>cases rx;exact Sa a t' b
  |int b=>obtain⟨t,rfl⟩:=rx;exact XB a t' b t
  |str b=>obtain⟨t,rfl⟩:=rx;exact Uv a t' b t
  |_=>exact absurd (show false=true from fx) Zm
 |str a=>
  obtain⟨t',rfl⟩:=ry;cases x with
  |non=>cases rx;exact SA a t'
  |bl b=>cases rx;exact SB a t' b
  |int b=>obtain⟨t,rfl⟩:=rx;exact Uu a t' b t
  |str b=>obtain⟨t,rfl⟩:=rx;exact SeqAt.EqAt.str_str a t' b t
  |_=>exact absurd (show false=true from fx) Zm
 |_=>exact absurd (show false=true from fy) Zm
theorem aW:dy X (.builtin "len") (fun xs H Q=>∃p ys,xs=[.ref p]/\(SqL X.K H p ys\/SqT X.K H p ys)/\Q (.int ys.length) H):=by
 intro aa s σ H xs us Q I r h;obtain⟨p,ys,rfl,hq,q⟩:=h;obtain⟨u,rfl,rx⟩:=vals1 r;cases rx;have hn:=sZ;rcases hq with hq|hq
 ·obtain⟨C',r',pl,hz⟩:=I.list hq;have hlen:=r'.length;exact Calls.call_len_list pl.isList (by simp only[Zs]<;>lia) ⟨.int ys.length,H,I.tok _,⟨s.toks+1,by rw[Zs,hlen]⟩,q⟩
 ·obtain⟨C',r',pl,hz⟩:=I.tuple hq;have hlen:=r'.length;exact len_tuple pl (by simp only[Zs]<;>lia) ⟨.int ys.length,H,I.tok _,⟨s.toks+1,by rw[Zs,hlen]⟩,q⟩
theorem kq:dy X (.type "list") (fun xs H Q=>∃p ys,xs=[.ref p]/\(SqL X.K H p ys\/SqT X.K H p ys)/\∀l,H l=none->Q (.ref l) (upd H l (.lst ys))):=by
 intro aa s σ H xs us Q I r h;obtain⟨p,ys,rfl,hq,q⟩:=h;obtain⟨u,rfl,rx⟩:=vals1 r;cases rx;have fin:∀(C':List Value),aR ys C'->ys.length<=sizeLine->∀(h':ZF) (c':Nat),(∀b o',s.heap.get? b=some o'->h'.get? b=some o')->
   h'.get? s.heap.objs.size=some {cls:=.type "list",dict:=none,data:=.seq C'.toArray c',slots:=#[]}->EP X aa σ Q (.ref s.heap.objs.size) {s with heap:=h'}:=fun C' r' hz h' c' kp e=>
  ⟨.ref s.heap.objs.size,_,I.laid (t':=s.toks) kp (Nat.le_refl _) (show bF X.prog X.w _ h' _ (.lst ys) from ⟨hz,C',c',r',e⟩),rfl,q _ (I.hok.fresh (Nat.le_refl _))⟩
 rcases hq with hq|hq
 ·obtain⟨C',r',pl,hz⟩:=I.list hq;have hlen:=r'.length;obtain⟨o,ho,hc,n,hd⟩:=pl.isList;exact TH p (.inl rfl) ho hc hd (fun h' c' kp e=>fin C' r' hz h' c' kp e) (by simp only[Zs]<;>lia)
 ·obtain⟨C',r',pl,hz⟩:=I.tuple hq;have hlen:=r'.length;obtain⟨o,ho,hc,n,hd⟩:=pl;exact TH p (.inr rfl) ho hc hd (fun h' c' kp e=>fin C' r' hz h' c' kp e) (by simp only[Zs]<;>lia)
noncomputable def tyV(K:Z3)(T:String)(x:V)(H:Hp):Prop:=match x with
 | .str _=>T = "str"
 | .int _=>T = "int"
 | .ref p=>(T = "list" /\ ∃xs,SqL K H p xs)\/(T = "tuple" /\ ∃o,K.lookup p=some o/\o.cls=.type "tuple"/\o.dict=none)\/
   (T = "dict"/\((∃D',H p=some (.dK D'))\/∃D',H p=some (.dT D')))\/(T = "set" /\ ∃S n,H p=some (.set S n))
 |_=>False
theorem xq{aa:List (Addr×Obj)}{σ:St}{H:Hp}{s:Shared}{T:String}{x:V}{v:Value}(I:Inv X aa σ H s)(r:RelV x v)(ty:tyV X.K T x H):
  s.TypeIs v T/\∀a,v=.ref a->∃ob,s.heap.get? a=some ob/\ob.dict=none:=by
 cases x with
 |str z=>
  obtain⟨t,rfl⟩:=r;cases (show T = "str" from ty)
  exact⟨typeIs_str s z t,fun _ e=>nomatch e⟩
 |int i=>
  obtain⟨t,rfl⟩:=r;cases (show T = "int" from ty)
  exact⟨typeIs_int s i t,fun _ e=>nomatch e⟩
 |ref p=>
  cases r;rcases ty with ⟨rfl,xs,hq⟩|⟨rfl,o,hk,hc,hd⟩|⟨rfl,hk⟩|⟨rfl,S,n,hk⟩
  ·obtain⟨C',_,pl,_⟩:=I.list hq;refine⟨pl.isList.typeIs,fun a e=>?_⟩;cases e;obtain⟨o,n,e,c,hd,_⟩:=pl;exact⟨o,e,hd⟩
  ·refine⟨⟨o,I.kIn p o hk,hc⟩,fun a e=>?_⟩;cases e;exact⟨o,I.kIn _ o hk,hd⟩
  ·have z:∃o,s.heap.get? p=some o/\o.ExactDict:=by
    rcases hk with ⟨D',hk⟩|⟨D',hk⟩
    ·obtain⟨_,_,_,_,o,_,_,e,ex,_⟩:=I.hok p _ hk;exact⟨o,e,ex⟩
    ·obtain⟨_,_,_,_,o,_,_,e,ex,_⟩:=I.hok p _ hk;exact⟨o,e,ex⟩
   obtain⟨o,e,ex⟩:=z;refine⟨⟨o,e,ex.1⟩,fun a e2=>?_⟩;cases e2;exact⟨o,e,ex.2.1⟩
  ·obtain⟨o,_,_,_,e,ex,_⟩:=I.hok p _ hk;refine⟨⟨o,e,ex.1⟩,fun a e2=>?_⟩;cases e2;exact⟨o,e,ex.2.1⟩
 |_=>exact False.elim ty
noncomputable def tBM0(K:Z3)(T:String)(r:V->List V->Hp->VK->Prop)(to:TE):TE:=fun σ H Q=>to σ H fun x H1=>tyV K T x H1/\r x [] H1 Q
noncomputable def tBM(K:Z3)(T:String)(r:V->List V->Hp->VK->Prop)(to:TE)(t:TA):TE:=fun σ H Q=>to σ H fun x H1=>tyV K T x H1/\t σ H1 fun xs H2=>r x xs H2 Q
variable{o e:ZN}{es:List ZN}{to:TE}{t:TA}{name:Str}{apos Et:Pos}{T id:String}{r:V->List V->Hp->VK->Prop}
theorem xl(pa:PlainAttrs T)(slot:Slot T name id)(Ga:typeOf (.builtin id)=pure (.type "method_descriptor"))(hm:MtR X id r)(ho:PE X o to)
  (Fm:attributeBase o name X.env (eval o X.env)=eval o X.env:=by rfl)(Fo:(apos.endLine==Et.line)=true:=by rfl):PE X (.Call (.Attribute o name apos) [] [] Et) (tBM0 X.K T r to):=by
 intro aa s σ H Q I h;refine wpAny_Call_method0_late Fm Fo (thn (ho aa s σ H _ I h) fun v s1 zz=>?_);obtain⟨x,H1,I1,r1,ty,q1⟩:=zz;obtain⟨h1,h2⟩:=xq I1 r1 ty;exact⟨T,id,pa,slot,Ga,h1,h2,Vf rfl (PySem.evalArgs_none (hm aa s1 σ H1 x [] v [] Q I1 r1 .nil q1))⟩
theorem i5(pa:PlainAttrs T)(slot:Slot T name id)(Ga:typeOf (.builtin id)=pure (.type "method_descriptor"))(hm:MtR X id r)(ho:PE X o to)(ha:PA X (e::es) t)
  (Fm:attributeBase o name X.env (eval o X.env)=eval o X.env:=by rfl)
  (hfew:((backTo Et (Zp (e::es) X.env)).all (fun x=>!x.1)&&(backToKw Et (keywordEach [] X.env)).all (fun x=>x.1.isSome)
   && decide ((e::es).length+([]:List S0).length+(if ([]:List S0).isEmpty then 0 else 1)<30))=true:=by rfl)
  (Fo:(apos.endLine==Et.line)=true:=by rfl)(hs:Zp (e::es) X.env=(false,eval e X.env)::Zp es X.env:=by rfl)(hplain:(backTo Et (Zp es X.env)).any (·.1)=false:=by rfl):
  PE X (.Call (.Attribute o name apos) (e::es) [] Et) (tBM X.K T r to t):=by
 intro aa s σ H Q I h;refine wpAny_Call_method_late Fm hfew Fo rfl (thn (ho aa s σ H _ I h) fun v s1 zz=>?_);obtain⟨x,H1,I1,r1,ty,q1⟩:=zz;obtain⟨h1,h2⟩:=xq I1 r1 ty;refine⟨T,id,pa,slot,Ga,h1,h2,?_⟩;have hA:=ha Et aa s1 σ H1 _ I1 q1;rw[hs]at hA ⊢;refine Vf (by show (false||(backTo Et (Zp es X.env)).any (·.1))=false;rw[hplain]<;>rfl) (VW ?_)
 exact thn hA fun us s2 ⟨vs,H2,I2,r2,q2⟩=>hm aa s2 σ H2 x vs v us Q I2 r1 r2 q2
end
end L2
namespace L2
open PySem PySem.Spec PyProof.Rows
noncomputable def MtM(X:Cx)(id:String)(r:V->List V->Hp->VK->Prop):Prop:=
 ∀(aa:List (Addr×Obj)) (s:Shared) (σ:St) (H:Hp) (x:V) (xs:List V) (v:Value) (us:List Value) (Q:VK),Inv X aa σ H s->RelV x v->aR xs us->r x xs H Q->
  Zq (model X.prog X.w) X.A (call (.builtin id) (v::us)) (EP X aa σ Q) X.xe s
theorem aR.one:∀{x:V} {us:List Value},aR [x] us->∃u,us=[u]/\RelV x u
 |_,_,.cons r .nil=>⟨_,rfl,r⟩
theorem aR.zero:∀{us:List Value},aR [] us->us=[]
 |_,.nil=>rfl
theorem aR.dropLast{xs:List V}{us:List Value}(h:aR xs us):aR xs.dropLast us.dropLast:=by
 induction h with
 |nil=>exact .nil
 |cons r t ih=>
  cases t with
  |nil=>exact .nil
  |cons q t'=>exact .cons r ih
theorem aR.eraseIdx:∀{xs:List V} {us:List Value} (i:Nat),aR xs us->aR (xs.eraseIdx i) (us.eraseIdx i)
 |_,_,_,.nil=>.nil
 |_,_,0,.cons _ t=>t
 |_,_,i+1,.cons r t=>.cons r (aR.eraseIdx i t)
theorem aR.reverse{xs:List V}{us:List Value}(h:aR xs us):aR xs.reverse us.reverse:=by
 induction h with
 |nil=>exact .nil
 |cons r t ih=>rw[X3,X3];exact aR.append ih (.cons r .nil)
theorem vc{α:Type}(l:List α):l.eraseIdx (l.length-1)=l.dropLast:=by
 induction l with
 |nil=>rfl
 |cons a r ih=>
  cases r with
  |nil=>rfl
  |cons b r=>
   have e:(a::b::r).length-1=((b::r).length-1)+1:=by
    have h1:(a::b::r).length=r.length+2:=rfl;have h2:(b::r).length=r.length+1:=rfl;lia
   rw[e,List.eraseIdx_cons_succ,ih]
   all_goals rfl
theorem pJ{α:Type}:∀(l:List α) (i:Nat),(l.eraseIdx i).length<=l.length
 | [],_=>Nat.le_refl _
 |_::_,0=>Nat.le_succ _
 |_::r,i+1=>Nat.succ_le_succ (pJ r i)
section
variable{X:Cx}{aa:List (Addr×Obj)}{σ:St}{H:Hp}{s:Shared}{l b:Addr}{xs ys zs:List V}
theorem Inv.lset{C' its':List Value}{n:Nat}{f:Array Value->Array Value}{t':Nat}(I:Inv X aa σ H s)(hH:H l=some (.lst xs))
  (e:s.heap.get? l=some {cls:=.type "list",data:=.seq C'.toArray n})(hf:f C'.toArray=its'.toArray)(hv:aR ys its')(hz:ys.length<=sizeLine):
  Inv X aa σ (upd H l (.lst ys)) {s with heap:=s.heap.update l (Y8 f),toks:=t'}:=by
 have q:=PySem.IsL.update e f;rw[hf]at q;refine I.write (x:=l) (e:=l) (by rw[hH];exact trivial) (.inl rfl) (fun b' u hb hu=>(Ym s.heap (Y8 f) (Ne.symm hb)).trans hu) ⟨_,q⟩ ?_
 exact⟨hz,its',_,hv,q⟩
theorem Inv.lnew{C':List Value}{t':Nat}(I:Inv X aa σ H s)(hv:aR ys C')(hz:ys.length<=sizeLine):
  Inv X aa σ (upd H s.heap.objs.size (.lst ys)) {s with heap:=s.heap.push {cls:=.type "list",data:=.seq C'.toArray},toks:=t'}:=
 I.laid (fun _ _ q=>Z8 _ q) (Nat.le_refl _) ⟨hz,C',0,hv,Zk _ rfl⟩
theorem Inv.fresh(I:Inv X aa σ H s):H s.heap.objs.size=none:=I.hok.fresh (Nat.le_refl _)
theorem Inv.lstM(I:Inv X aa σ H s)(hH:H l=some (.lst xs)):xs.length<=sizeLine/\∃(C':List Value) (n:Nat),aR xs C'/\xs.length=C'.length/\s.heap.get? l=some {cls:=.type "list",data:=.seq C'.toArray n}:=by
 obtain⟨z,C',n,r,e⟩:=I.hok l _ hH;exact⟨z,C',n,r,r.length,e⟩
theorem zL{n:Nat}(h:n<=sizeLine):W_ n=false:=by
 unfold W_;exact YJ (by lia)
end
section
variable{X:Cx}
noncomputable def BO:V->List V->Hp->VK->Prop:=fun x vs H Q=>∃l xs y,x=.ref l/\vs=[y]/\H l=some (.lst xs)/\xs.length<sizeLine/\Q .non (upd H l (.lst (xs++[y])))
theorem iV:MtM X "list.append" BO:=by
 intro aa s σ H x vs v us Q I rx rv h;obtain⟨l,xs,y,rfl,rfl,hH,hz,q⟩:=h;cases rx;obtain⟨u,rfl,ru⟩:=rv.one;obtain⟨z,C',n,r,hl,e⟩:=I.lstM hH;refine WX F.slot_list_append ⟨_,e,rfl⟩ F.entry_list_append (F.args_list_append_2 _ _) (PySem.list_append l C'.toArray n u (by rw[Zs];lia)) ⟨e,?_⟩
 refine⟨.non,_,I.lset (its':=C'++[u]) hH e (by simp) (r.append (.cons ru .nil)) ?_,rfl,q⟩
 rw[Z5,YS];lia
noncomputable def BB:V->List V->Hp->VK->Prop:=fun x vs H Q=>∃l b xs zs,x=.ref l/\vs=[.ref b]/\H l=some (.lst xs)/\H b=some (.lst zs)/\xs.length+zs.length<=sizeLine/\Q .non (upd H l (.lst (xs++zs)))
theorem yi:MtM X "list.extend" BB:=by
 intro aa s σ H x vs v us Q I rx rv h;obtain⟨l,b,xs,zs,rfl,rfl,hH,hB,hz,q⟩:=h;cases rx;obtain⟨u,rfl,ru⟩:=rv.one;cases ru;obtain⟨z,C',n,r,hl,e⟩:=I.lstM hH;obtain⟨z2,its2,n2,r2,Fj,e2⟩:=I.lstM hB;have hsz:C'.toArray.size+its2.toArray.size<=sizeLine:=by rw[Zs,Zs];lia
 have hlong:¬(!C'.toArray.isEmpty&&W_ (C'.toArray.size+its2.toArray.size))=true:=by
  rw[zL hsz,Wo];exact Zm
 refine WX F.slot_list_extend ⟨_,e,rfl⟩ F.entry_list_extend (F.args_list_extend_2 _ _)
  (Uf l C'.toArray n b its2.toArray n2 hlong (by rw[Zs];lia) (by lia)) ⟨e,e2,?_⟩
 refine⟨.non,_,I.lset (its':=C'++its2) hH e (by simp) (r.append r2) ?_,rfl,q⟩
 rw[Z5];lia
noncomputable def rPop:V->List V->Hp->VK->Prop:=fun x vs H Q=>∃l xs y,x=.ref l/\vs=[]/\H l=some (.lst xs)/\xs[xs.length-1]?=some y/\Q y (upd H l (.lst xs.dropLast))
theorem yg:MtM X "list.pop" rPop:=by
 intro aa s σ H x vs v us Q I rx rv h;obtain⟨l,xs,y,rfl,rfl,hH,hy,q⟩:=h;cases rx;have hus:=rv.zero;subst hus;obtain⟨z,C',n,r,hl,e⟩:=I.lstM hH;obtain⟨u,hu,ru⟩:=r.get hy;have hy':C'.toArray[C'.toArray.size-1]?=some u:=by
  show C'.toArray[C'.length-1]?=some u;rw[<-Y4,<-hl];exact hu
 refine WX F.slot_list_pop ⟨_,e,rfl⟩ F.entry_list_pop (F.args_list_pop_1 _) (S5 l C'.toArray n u hy' (by rw[Zs];lia)) ⟨e,?_⟩
 refine⟨y,_,I.lset (its':=C'.dropLast) hH e ?_ r.dropLast ?_,ru,q⟩
 ·show C'.toArray.eraseIdxIfInBounds (C'.toArray.size-1)=C'.dropLast.toArray;rw[Zs,Wk,vc]
 ·rw[Yg];lia
noncomputable def DD:V->List V->Hp->VK->Prop:=fun x vs H Q=>∃l xs i k y,x=.ref l/\vs=[.int i]/\H l=some (.lst xs)/\-(2^63)<=i/\i<2^63/\seqIndex? i xs.length=some k/\xs[k]?=some y/\Q y (upd H l (.lst (xs.eraseIdx k)))
theorem zV:MtM X "list.pop" DD:=by
 intro aa s σ H x vs v us Q I rx rv h;obtain⟨l,xs,i,k,y,rfl,rfl,hH,h1,h2,hk,hy,q⟩:=h;cases rx;obtain⟨u,rfl,ru⟩:=rv.one;obtain⟨t,rfl⟩:=ru;obtain⟨z,C',n,r,hl,e⟩:=I.lstM hH;obtain⟨w,hw,rw'⟩:=r.get hy;refine WX F.slot_list_pop ⟨_,e,rfl⟩ F.entry_list_pop (F.args_list_pop_2 _ _)
  (Sn l C'.toArray n i t k w (fitsIndex_both h1 h2) (by rw[Zs,<-hl];exact hk) (by rw[<-Y4];exact hw) (by rw[Zs];lia)) ⟨e,?_⟩
 refine⟨y,_,I.lset (its':=C'.eraseIdx k) hH e ?_ (r.eraseIdx k) ?_,rw',q⟩
 ·show C'.toArray.eraseIdxIfInBounds k=(C'.eraseIdx k).toArray;rw[Wk]
 ·have:=pJ xs k
  lia
noncomputable def CJ:R2:=fun x y H Q=>∃l b xs zs,x=.ref l/\y=.ref b/\H l=some (.lst xs)/\H b=some (.lst zs)/\xs.length+zs.length<=sizeLine/\∀p,H p=none->Q (.ref p) (upd H p (.lst (xs++zs)))
theorem dL:OpR X (binaryOp .Add) CJ:=by
 intro aa s σ H x y v u Q I rx ry h;obtain⟨l,b,xs,zs,rfl,rfl,hH,hB,hz,q⟩:=h;cases rx;cases ry;obtain⟨z,C',n,r,hl,e⟩:=I.lstM hH;obtain⟨z2,its2,n2,r2,Fj,e2⟩:=I.lstM hB;refine PySem.P.add_list e e2 ?_ (by rw[Zs,Zs];lia)
 have ea:C'.toArray++its2.toArray=(C'++its2).toArray:=by simp
 rw[ea];exact⟨.ref _,_,I.lnew (t':=s.toks) (r.append r2) (by rw[Z5];lia),rfl,q _ I.fresh⟩
end
section
variable{prog:Zv}{w:Zl}{A:ZK}{E:Value->Shared->Prop}{s:Shared}
end
section
variable{X:Cx}
end
end L2
namespace Att
open PySem PySem.W PySem.Calls PyProof.Rows
theorem m8{P:UW}{h:ZF}:∀(ns:List Int) (vs:List Value),WellAll P h vs (ns.map WData.int)->IntsAre vs ns:=by
 intro ns
 induction ns with
 |nil=>
  intro vs w;rw[Wn]at w;cases w;exact .nil
 |cons n ns ih=>
  intro vs w;rw[Y5]at w;cases w with
  |cons a b=>
   cases a;exact .cons _ _ (ih _ b)
theorem xh{l:OpenLaw}{n:Nat}(hn:l.most=some n){P:UW}{h:ZF}{args:List WData}{vals:List Value}
  (Fx:l.row.toRowW.claim.pre args=true)(Gb:WellAll P h vals args):
  ∃a vs ns,vals=[Value.ref a]/\args=[WData.list (ns.map WData.int)]/\h.get? a=some {cls:=.type "list",data:=.seq vs.toArray}/\IntsAre vs ns/\ns.length<=n:=by
 have hsh:WShape.hasAll [] args [.list .int]=true:=(pre_splitW Fx).1;have hc:l.pre.holds [] {args:=args}=true:=(pre_splitW Fx).2;obtain⟨d,r,rfl,h1,h2⟩:=hasAllW_cons hsh;obtain rfl:=hasAllW_nil h2;obtain⟨xs,rfl,h3⟩:=hasW_list h1;obtain⟨ns,rfl⟩:=items_int h3;have hlen:ns.length<=n:=by
  unfold OpenLaw.pre at hc;have h4:(WTm.not (.lt (.lit (.int (n:Int))) (.len (.arg 0)))).holds [] {args:=[.list (ns.map .int)]}=true:=by
   have h4:=(holds_andW hc).1;rw[hn]at h4;exact h4
  have h5:=condW_of h4 (w_not (w_lt w_lit (w_len_list (w_arg rfl))));rw[Z6]at h5;refine Nat.le_of_not_lt fun q=>?_;have q':(n:Int)<((ns.length:Nat):Int):=by lia
  first
   | (rw[Zt q']at h5;exact absurd h5 (by decide))
   | (simp at h5;lia)
 cases Gb with
 |cons w1 w2=>
  cases w2;cases w1 with
  |list ho EE=>exact⟨_,_,ns,rfl,rfl,ho,m8 ns _ EE,hlen⟩
theorem wL(l:OpenLaw)(args:List WData):l.row.toRowW.claim.post args (.bool true) args=true:=
 postW_of (r:=l.row.toRowW) (X:=(true==true))
  (show WShape.has [] (.bool true) .bool=true by first|rfl|decide|simp[WShape.has,WShape.arms,WShape.armsAll])
  (show (WTm.eq .res (.lit (.bool true))).value [] {args:=args,res:=some (.bool true),after:=args}=some (.bool (true==true)) from w_eq_bool (w_res rfl) w_lit) rfl
theorem attach_call{l:OpenLaw}{n:Nat}{q:Zv}{loose:List Str}{XP:(Str->Option Value)->ZF->Prop}{YP:Zl->ZF->Prop}{d:DefRec}
  (hn:l.most=some n)(FU:d.params.defaults=[])
  (call:∀(w:Zl) (s₀ s₁:Shared) (mg mb:Str->Option Value) (fa:Addr) (o:Obj) (pm cd doc:Value) (a:Addr) (vs:List Value) (ns:List Int),
   Ground q loose [] XP w s₀ mg mb s₁.heap->YP w s₁.heap->
   s₁.heap.get? fa=some o->o.data=.func (docDef d.name d.params d.body d.scope pm cd doc)->s₁.heap.CodeRec cd d.name->mg d.name=some (.ref fa)->
   s₁.heap.get? a=some {cls:=.type "list",data:=.seq vs.toArray}->IntsAre vs ns->ns.length<=n->s₁.gens=#[]->
   Xd (model l.prog w) callerA (.call (.ref fa) ⟨[.ref a],[]⟩) (fun r s'=>r=.ok (.ret (.bool true))/\OldK s₁.heap s'.heap/\s'.os=s₁.os/\Wa s'.gens) s₁):
  WalkO q loose XP YP l.row.toRowW d [] (fun f vs=>UX f vs):=by
 intro w s₀ s₁ mg mb G Y fa o pm cd doc dV kV ho hd F0 hD hmg hg args vals as Fx hlay hrd Gb hlo;obtain rfl:dV=.none:=Dflts.none hD FU;obtain rfl:kV=.none:=Dflts.noKw hD;obtain⟨a,vs,ns,rfl,rfl,hobj,hints,hlen⟩:=xh hn Fx Gb;refine enter_call (X_ (call w s₀ s₁ mg mb fa o pm cd doc a vs ns G Y ho (fd_plain hd) F0 hmg hobj hints hlen hg) fun r s' hq=>?_);obtain⟨rfl,h2,h3,h4⟩:=hq;exact⟨.inl ⟨.bool true,.bool true,[],rfl,fun _=>rfl,.bool true,wL l _,fun _=>⟨List.Pairwise.nil,fun _ hm=>(nomatch hm)⟩⟩,h2,h3,h4⟩
section
variable{prog:Zv}{w:Zl}{A:ZK}{E:Value->Shared->Prop}{s:Shared}{K:Frag}
end
end Att
namespace L2
open PySem PySem.Spec PyProof.Rows
theorem pM:∀{vs:List Value} {ns:List Int},IntsAre vs ns->aR (ns.map V.int) vs
 |_,_,.nil=>.nil
 |_,_,.cons n t h=>.cons ⟨t,rfl⟩ (pM h)
noncomputable def yT(H:Hp):Prop:=∀b,H b=none\/∃o xs,H b=some (.frz o (.lst xs))
theorem yP{P:Zv}{w:Zl}{K:Z3}{mg mb:Str->Option Value}{CX:CXT}{k:Nat}{fa a:Addr}{fd:Zf}{x:Str}{sp:Sp}{s₁:Shared}{vs:List Value}{ns:List Int}
  (KX:K.In s₁.heap)(Gs:s₁.heap.Ns ZZ mg)(hb:s₁.heap.Ns builtinsNs mb)(hbb:∀x:Str,x ≠ "__name__"->mb x=bootBuiltins x)(hlim:s₁.heap.NoLimit)(hg:s₁.gens=#[])
  (ha:s₁.heap.get? a=some {cls:=.type "list",data:=.seq vs.toArray})(hi:IntsAre vs ns)(hl:ns.length<=sizeLine)(hr:dJ k callerA)
  (F:∀base:ZF,K.In base->base.Ns ZZ mg->aI P w K mg base CX k fa fd [x] sp)(hbind:∀(s:Shared) (u:Value),U7 s fd ⟨[u],[]⟩ [(x,u)])
  (F1:∀H:Hp,yT H->SqL K H a (ns.map V.int)->sp [.ref a] H (fun v _=>v=.bl true) fun _ _ _=>False)
  (Gc:∀H e s',CX [] H s₁ (fun _ _ _=>False) e s'->False):
  Xd (model P w) callerA (.call (.ref fa) ⟨[.ref a],[]⟩) (fun r s'=>r=.ok (.ret (.bool true))/\OldK s₁.heap s'.heap/\s'.os=s₁.os/\Wa s'.gens) s₁:=by
 have rv:=pM hi;have lenV:=hi.length;have core:∀H:Hp,yT H->SqL K H a (ns.map V.int)->HOk P w H s₁.heap->(∀b,H b≠none->b=a)->(H a≠none->K.lookup a=none)->
   Xd (model P w) callerA (.call (.ref fa) ⟨[.ref a],[]⟩) (fun r s'=>r=.ok (.ret (.bool true))/\OldK s₁.heap s'.heap/\s'.os=s₁.os/\Wa s'.gens) s₁:=by
  intro H hO hS hok hA hK;have base_of:∀{b:Addr} {o:Obj},s₁.heap.get? b=some o->H b=none->(jH s₁.heap H).get? b=some o:=fun e n=>zP e n;have noA:∀{b:Addr} {o:Obj} {es:Array DictEntry} {ep:Nat},s₁.heap.get? b=some o->o.data=.dict es ep->H b=none:=fun {b o es ep} e d=>by
   cases q:H b with
   |none=>rfl
   |some u=>
    have e':b=a:=hA b (by rw[q];simp)
    subst e';rw[ha]at e;cases e;have d':Data.seq vs.toArray _=Data.dict es ep:=d;cases d'
  have nsK:∀{b:Addr} {m:Str->Option Value},s₁.heap.Ns b m->(jH s₁.heap H).Ns b m:=fun {b m} ⟨o,es,ep,e,d,r⟩=>⟨o,es,ep,base_of e (noA e d),d,r⟩;have FG:K.In (jH s₁.heap H):=fun b o e=>base_of (KX b o e) (by
   cases q:H b with
   |none=>rfl
   |some u=>
    have e':b=a:=hA b (by rw[q];simp)
    subst e';rw[hK (by rw[q];simp)]at e;cases e)
  have hM:Mod K mg (jH s₁.heap H):=⟨FG,nsK Gs,⟨mb,nsK hb,hbb⟩,let ⟨mc,h1,h2⟩:=hlim;⟨mc,nsK h1,h2⟩⟩;have e0:oV P w K mg (jH s₁.heap H) callerA [] s₁ H:=⟨rfl,hM,fun b o e=>A6 e,Nat.le_of_eq (xm _ _),trivial,fun b hb=>absurd (show b∈([]:List Addr) from hb) (by simp),hok,.of_eq hg⟩
  refine X_ ((F _ FG (nsK Gs)).run callerA [] s₁ H ⟨[.ref a],[]⟩ [.ref a] [.ref a] _ _ hr e0 (hbind s₁ (.ref a)) (.cons rfl .nil) (F1 H hO hS)) fun r s' h=>?_;cases r with
  |error e=>exact (Gc H e s' h).elim
  |ok fl=>
   cases fl with
   |next=>exact False.elim h
   |brk=>exact False.elim h
   |cont=>exact False.elim h
   |ret u=>
    obtain⟨v,H',os,bare,un,hok',r',q⟩:=h;have q':v=.bl true:=q;subst q';obtain rfl:u=Value.bool true:=r';refine⟨rfl,OldK.of_keep fun b o e=>?_,os,bare⟩;cases q:H b with
    |none=>exact un.keep b o e q (by intro z;exact absurd (show b∈([]:List Addr) from z) (by simp)) (by simp)
    |some u=>
     rcases hO b with z|⟨ob,xs,z⟩
     ·rw[q]at z;cases z
     ·have z2:=un.frzs b ob _ z;obtain⟨e1,_⟩:=hok b _ z;obtain⟨e2,_⟩:=hok' b _ z2;rw[e]at e1;cases e1;exact e2
 cases hk:K.lookup a with
 |some o=>
  have e:=KX a o hk;rw[ha]at e;cases e;refine core (fun _=>none) (fun _=>.inl rfl) (.inr ⟨_,vs.toArray,_,hk,rfl,rfl,rfl,by rw[Zs,lenV];exact hl,by simpa using rv⟩) (fun b u z=>by have z':(none:Option HO)=some u:=z;cases z') (fun b z=>absurd rfl z) fun z=>absurd rfl z
 |none=>
  refine core (fun b=>if b=a then some (.frz {cls:=.type "list",data:=.seq vs.toArray} (.lst (ns.map V.int))) else none) (fun b=>?_) (.inl (.inr ⟨{cls:=.type "list",data:=.seq vs.toArray},if_pos rfl⟩)) (fun b u z=>?_) (fun b z=>?_) fun _=>hk
  ·by_cases hb:b=a
   ·exact .inr ⟨_,_,if_pos hb⟩
   ·exact .inl (if_neg hb)
  ·by_cases hb:b=a
   ·have z':=(if_pos hb).symm.trans z;cases z';subst hb;exact⟨ha,by rw[Z6];exact hl,vs,_,rv,ha⟩
   ·have z':=(if_neg hb).symm.trans z;cases z'
  ·by_cases hb:b=a
   ·exact hb
   ·exact absurd (if_neg hb) z
end L2
namespace L2
open PySem PySem.Spec PyProof.Rows
theorem BQ{l:VB}{n k:Nat}{q:Zv}{loose:List Str}{XP:(Str->Option Value)->ZF->Prop}{YP:Zl->ZF->Prop}{d:DefRec}{K:UW->Z3}{CX:Zl->CXT}{sp:Zl->Sp}{x:Str}
  (hn:l.most=some n)(G8:n<=sizeLine)(FU:d.params.defaults=[])(hr:dJ k callerA)
  (hY:∀(w:Zl) (h:ZF),YP w h->(K w.params).In h)
  (F:∀(w:Zl) (mg:Str->Option Value) (fa:Addr) (h:ZF),(K w.params).In h->h.Ns ZZ mg->mg d.name=some (.ref fa)->
   ∃fd:Zf,(∀(s:Shared) (u:Value),U7 s fd ⟨[u],[]⟩ [(x,u)])/\
    ∀base:ZF,(K w.params).In base->base.Ns ZZ mg->aI l.prog w (K w.params) mg base (CX w) k fa fd [x] (sp w))
  (F1:∀(w:Zl) (H:Hp) (a:Addr) (ns:List Int),ns.length<=n->yT H->SqL (K w.params) H a (ns.map V.int)->sp w [.ref a] H (fun v _=>v=.bl true) fun _ _ _=>False)
  (Gc:∀(w:Zl) (H:Hp) (s:Shared) (e:Value) (s':Shared),CX w [] H s (fun _ _ _=>False) e s'->False):
  TJ q loose XP YP l.row.toRowW d [] (fun f vs=>UX f vs):=by
 refine Att.attach_call hn FU fun w s₀ s₁ mg mb fa o pm cd doc a vs ns G Y ho hd F0 hmg hobj hints hlen hg=>?_;have KX:=hY w _ Y;obtain⟨fd,hb,hF⟩:=F w mg fa _ KX G.T.g hmg;exact yP KX G.T.g G.T.b G.T.builtins G.T.nolimit hg hobj hints (Nat.le_trans hlen G8) hr hF hb (fun H hO hS=>F1 w H a ns hlen hO hS) fun H e s'=>Gc w H s₁ e s'
end L2
namespace L2
open PySem PySem.Spec PyProof.Rows
noncomputable def gv(s:Stmt):TV:=match s with
 | .FunctionDef _ a _ _ _ _ _ _ _ _=>a
 |_=>{posonlyargs:=[],args:=[],vararg:=none,kwonlyargs:=[],kw_defaults:=[],kwarg:=none,defaults:=[]}
noncomputable def ez(s:Stmt):List Stmt:=match s with
 | .FunctionDef _ _ b _ _ _ _ _ _ _=>b
 |_=>[]
noncomputable def aq(s:Stmt):XQ:=match s with
 | .FunctionDef _ _ _ _ _ _ sc _ _ _=>sc
 |_=>{kind:=.function,names:=[],isGenerator:=false,isCoroutine:=false}
noncomputable abbrev CX0:CXT:=fun _ _ _ _ _ _=>False
noncomputable abbrev E0:XK:=fun _ _ _=>False
theorem D7{X:Cx}:jt CX0 X E0:=fun _ _ _ _ _ _ _ h=>h.elim
structure Fun(K:Z3)(x qual:Str)(st:Stmt)(f:Addr)(fd:Zf):Prop where
 ex:∃(oc:Value) (od:Option Addr) (kV doc pm:Value) (an:Option Addr) (E3 ct:Value) (Fl:Array (Option Value)),
  fd=YO x qual (gv st) (ez st) (aq st) .none kV doc pm an E3 ct/\K.lookup f=some ⟨oc,od,.func fd,Fl⟩/\Wq K E3 qual=true
 kp:Yl K (.ref f)=true
section
variable{P:Zv}{w:Zl}{K:Z3}{mg:Str->Option Value}{base:ZF}
theorem Fun.ok{x qual:Str}{st:Stmt}{f:Addr}{fd:Zf}{N ps:List Str}{k:Nat}{sp:Sp}(F:Fun K x qual st f fd)(S:aD N ps (aq st))(len:∀vs H Q E,sp vs H Q E->vs.length=ps.length)
  (EG:∀(E3:Value) (A:ZK) (outer:List Env) (s:Shared) (H:Hp) (vs:List V) (Q:VK) (E:XK),dJ k (A.deeper (envOfC qual (aq st) s.heap.objs.size f E3))->sp vs H Q E->
   ∃t,PSs (fQ CX0 P w K mg base N qual (aq st) f E3 A outer s H E).nox (ez st) t/\t {nx:=fun _ H'=>Q .non H',rt:=Q} (start N vs) H):aI P w K mg base CX0 (k+1) f fd ps sp:=by
 obtain⟨oc,od,kV,doc,pm,an,E3,ct,Fl,rfl,lk,F0⟩:=F.ex;refine AB lk F0 S len fun A outer s H vs Q E hr F1=>?_;obtain⟨t,h,q⟩:=EG E3 A outer s H vs Q E hr F1;exact⟨t,h.nox,q⟩
theorem Fun.binds{x qual:Str}{st:Stmt}{f:Addr}{fd:Zf}{ps:List Str}(F:Fun K x qual st f fd)
  (h:∀(kV doc pm:Value) (an:Option Addr) (E3 ct:Value) (us:List Value),us.length=ps.length->bindArgs (YO x qual (gv st) (ez st) (aq st) .none kV doc pm an E3 ct) ⟨us,[]⟩=pure (ps.zip us)):Binds K fd ps []:=by
 obtain⟨oc,od,kV,doc,pm,an,E3,ct,Fl,rfl,lk,F0⟩:=F.ex;exact .all (h kV doc pm an E3 ct)
theorem C6{x qual:Str}{st:Stmt}{f:Addr}{oc:Value}{od an:Option Addr}{Fl:Array (Option Value)}{kV doc pm E3 ct:Value}(l:K.lookup f=some ⟨oc,od,.func (YO x qual (gv st) (ez st) (aq st) .none kV doc pm an E3 ct),Fl⟩)
  (c:Wq K E3 qual=true)(k:Yl K (.ref f)=true):Fun K x qual st f (YO x qual (gv st) (ez st) (aq st) .none kV doc pm an E3 ct):=⟨⟨oc,od,kV,doc,pm,an,E3,ct,Fl,rfl,l,c⟩,k⟩
end
theorem kM{n:Nat}(h:n<=1000):n<sizeLine:=Nat.lt_of_le_of_lt h (by decide)
section
variable{X:Cx}
theorem pv(i:Nat){x:Str}{pos:Pos}(hN:X.N[i]?=some x:=by rfl)(hv:Vis X.env.scope x:=by first|exact ZQ rfl|exact UU (ZQ rfl)|exact UU (UU rfl))(hd:(x==("__debug__" : Str))=false:=by decide)
  (F0:(x==("__classdict__" : Str))=false:=by decide):PE X (.Name x pos) (dz i):=C_ hN hv hd F0
end
theorem fk{A B:Prop}(h:B):if false=true then A else B:=by
 rw[if_neg Zm];exact h
theorem c9{A B:Prop}(h:A):if true=true then A else B:=by
 rw[if_pos rfl];exact h
theorem aU{c A B:Prop}[Decidable c](h1:c->A)(h2:¬c->B):if c then A else B:=by
 by_cases h:c
 ·rw[if_pos h];exact h1 h
 ·rw[if_neg h];exact h2 h
noncomputable def au(H H':Hp):Prop:=∀b o,H b=some o->H' b=some o
theorem au.refl(H:Hp):au H H:=fun _ _ h=>h
theorem au.trans{H H1 H2:Hp}(a:au H H1)(b:au H1 H2):au H H2:=fun c o h=>b c o (a c o h)
theorem au.free{H H':Hp}(e:au H H'){l:Addr}(h:H' l=Sl):H l=Sl:=by
 cases q:H l with
 |none=>rfl
 |some o=>
  rw[e l o q]at h;cases h
theorem au.seq{K:Z3}{H H':Hp}{a:Addr}{xs:List V}(e:au H H')(h:SqL K H a xs):SqL K H' a xs:=by
 rcases h with (h|⟨o,h⟩)|h
 ·exact .inl (.inl (e _ _ h))
 ·exact .inl (.inr ⟨o,e _ _ h⟩)
 ·exact .inr h
end L2
end
section
namespace FD
open PySem PySem.W L2
noncomputable def zt(i:Nat):Stmt:=PySem.Challenge.pw_fencefield_k16_what_is_refused.main.body.getD i (.Pass ⟨0,0,0,0⟩)
noncomputable def hf(n:Str)(st:Stmt)(md:Value)(cd:Addr):Obj:={cls:=.type "function",data:=.func (YO n n (gv st) (ez st) (aq st) .none .none .none md none (.ref cd) .none)}
noncomputable def vS(x:Str)(t:Tok):Value:=.str x t
noncomputable def vI(n:Int):Value:=.int n 0
noncomputable def en(P:UW)(x:Str)(t:Tok)(v:Value):DictEntry:={hash:=PyData.keyHash P x,key:=.str x t,val:=v}
noncomputable def co(vs:List Value):Obj:={cls:=.type "code",data:=.fields vs.toArray}
noncomputable def ck(n:Str)(t:Tok)(l a g:Int)(r:Addr)(k t3:Int):Obj:=co [vS n t,vS n (t+1),vS "/claim/cut.py" (t+2),vI l,vI a,vI 0,vI 0,vI g,.ref r,.bool true,vI k,.ref (r+1),.none,.ref (r+2),.ref (r+3),.ref (r+4),vI t3,vI l,vS "/claim/cut.py" (t3+1).toNat]
noncomputable def cj(n:Str)(t:Tok)(l a:Int)(r:Addr):Obj:=co [vS n t,vS n (t+1),vS "/claim/cut.py" (t+2),vI l,vI a,vI 0,vI 0,vI 3,.ref r,.bool true,vI 181,.ref (r+1),.none,.none,.none,.ref (r+2),vI ((t+3:Nat):Int),vI l,vS "/claim/cut.py" (t+4)]
noncomputable def KK(P:UW):Z3:=[(3,{cls:=.type "dict",data:=.dict #[en P "__name__" 165 (vS "law_fencefield_k16_what_is_refused" 625),en P "__doc__" 166 (.none),en P "__package__" 167 (.none),en P "__loader__" 168 ((Value.builtin "__main__.__loader__#opaque")),en P "__spec__" 169 (.none),en P "__annotations__" 170 (.ref 6),en P "__builtins__" 171 (.ref 4),en P "__file__" 173 (vS "/claim/cut.py" 172),en P "__cached__" 174 (.none),en P "FenceError" 206 (.ref 24),en P "NoFence" 222 (.ref 37),en P "NoTurning" 238 (.ref 49),en P "TooWide" 254 (.ref 61),en P "turn" 267 (.ref 70),en P "between" 276 (.ref 77),en P "lies_on" 285 (.ref 84),en P "parts" 295 (.ref 91),en P "sides_meet" 305 (.ref 98),en P "goes_back" 316 (.ref 105),en P "meets_rightward" 325 (.ref 112),en P "whole_points" 336 (.ref 119),en P "FEWEST_CORNERS" 340 ((.int 3 339)),en P "MOST_CORNERS" 342 ((.int 12 341)),en P "is_fence" 349 (.ref 126),en P "double_area" 356 (.ref 133),en P "goes_left" 363 (.ref 140),en P "where" 371 (.ref 147),en P "place_of" 377 (.ref 152),en P "refuse_no_fence" 384 (.ref 159),en P "sides_of" 391 (.ref 166),en P "some_side_goes_back" 399 (.ref 173),en P "some_sides_meet" 411 (.ref 180),en P "signed_double_area" 417 (.ref 185),en P "rim" 425 (.ref 190),en P "inside" 432 (.ref 197),en P "row_counts" 438 (.ref 202),en P "row_stops" 444 (.ref 207),en P "row_stop" 455 (.ref 214),en P "whole_between" 463 (.ref 221),en P "greater" 471 (.ref 226),en P "greater_counts" 481 (.ref 233),en P "turned" 489 (.ref 240),en P "alike" 500 (.ref 247),en P "is_turning" 507 (.ref 254),en P "led" 513 (.ref 259),en P "led_point" 523 (.ref 266),en P "rotations" 529 (.ref 271),en P "bent_first" 535 (.ref 276),en P "turning_between" 541 (.ref 281),en P "coefficients" 555 (.ref 288),en P "WIDEST" 559 ((.int 60 558)),en P "least_triangles" 569 (.ref 295),en P "doubled_area" 576 (.ref 302),en P "corner_triangles" 582 (.ref 307),en P "loose_triangle" 588 (.ref 312),en P "is_loose" 594 (.ref 317),en P "holds" 600 (.ref 322),en P "point_within" 606 (.ref 327),en P "step_into" 618 (.ref 334),en P "split_at" 624 (.ref 339),en P "_law_cell_at" 634 (.ref 346),en P "_law_draw" 644 (.ref 353),en P "_law_rows_by" 659 (.ref 360),en P "_law_joined" 669 (.ref 367),en P "_law_spiral" 679 (.ref 374),en P "_law_flat" 685 (.ref 379),en P "_law_fence_by" 691 (.ref 384),en P "_law_sum" 702 (.ref 391),en P "_law_called" 712 (.ref 398),en P "_law_word_of" 720 (.ref 405),en P "_law_tried" 731 (.ref 412),en P "_law_spoilt" 737 (.ref 417),en P "law" 752 (.ref 424)] 73}),
 (70,hf "turn" (zt 6) (vS "fencefield.sides" 255) 69),
 (69,ck "turn" 257 11 3 3 64 181 265),
 (77,hf "between" (zt 7) (vS "fencefield.sides" 255) 76),
 (76,ck "between" 268 15 3 3 71 181 274),
 (84,hf "lies_on" (zt 8) (vS "fencefield.sides" 255) 83),
 (83,ck "lies_on" 277 17 3 3 78 181 283),
 (91,hf "parts" (zt 9) (vS "fencefield.sides" 255) 90),
 (90,ck "parts" 286 21 4 3 85 181 293),
 (98,hf "sides_meet" (zt 10) (vS "fencefield.sides" 255) 97),
 (97,ck "sides_meet" 296 23 4 3 92 181 303),
 (105,hf "goes_back" (zt 11) (vS "fencefield.sides" 255) 104),
 (104,ck "goes_back" 306 29 3 3 99 181 314),
 (166,hf "sides_of" (zt 23) (vS "fencefield.fences" 337) 165),
 (165,ck "sides_of" 385 74 1 3 160 181 389),
 (173,hf "some_side_goes_back" (zt 24) (vS "fencefield.fences" 337) 172),
 (172,ck "some_side_goes_back" 392 76 1 3 167 181 397),
 (180,hf "some_sides_meet" (zt 25) (vS "fencefield.fences" 337) 179),
 (179,ck "some_sides_meet" 400 81 1 3 174 181 409),
 (126,hf "is_fence" (zt 17) (vS "fencefield.fences" 337) 125),
 (125,ck "is_fence" 343 50 1 3 120 181 347),
 (159,hf "refuse_no_fence" (zt 22) (vS "fencefield.fences" 337) 158),
 (158,ck "refuse_no_fence" 378 71 1 3 153 181 382),
 (185,hf "signed_double_area" (zt 26) (vS "fencefield.fences" 337) 184),
 (184,cj "signed_double_area" 412 89 1 181),
 (133,hf "double_area" (zt 18) (vS "fencefield.fences" 337) 132),
 (132,ck "double_area" 350 56 1 3 127 181 354),
 (140,hf "goes_left" (zt 19) (vS "fencefield.fences" 337) 139),
 (139,ck "goes_left" 357 59 1 3 134 181 361),
 (112,hf "meets_rightward" (zt 12) (vS "fencefield.sides" 255) 111),
 (111,ck "meets_rightward" 317 35 3 3 106 181 323),
 (152,hf "place_of" (zt 21) (vS "fencefield.fences" 337) 151),
 (151,cj "place_of" 372 65 2 148),
 (147,hf "where" (zt 20) (vS "fencefield.fences" 337) 146),
 (146,ck "where" 364 62 2 3 141 181 369),
 (119,hf "whole_points" (zt 13) (vS "fencefield.sides" 255) 118),
 (118,ck "whole_points" 326 39 2 3 113 181 334),
 (190,hf "rim" (zt 28) (vS "fencefield.counts" 418) 189),
 (189,cj "rim" 420 92 1 186),
 (197,hf "inside" (zt 29) (vS "fencefield.counts" 418) 196),
 (196,ck "inside" 426 95 1 3 191 181 430),
 (214,hf "row_stop" (zt 32) (vS "fencefield.counts" 418) 213),
 (213,ck "row_stop" 445 107 3 3 208 181 453),
 (221,hf "whole_between" (zt 33) (vS "fencefield.counts" 418) 220),
 (220,ck "whole_between" 456 111 2 3 215 181 461),
 (207,hf "row_stops" (zt 31) (vS "fencefield.counts" 418) 206),
 (206,cj "row_stops" 439 104 2 203),
 (202,hf "row_counts" (zt 30) (vS "fencefield.counts" 418) 201),
 (201,cj "row_counts" 433 97 2 198),
 (226,hf "greater" (zt 35) (vS "fencefield.turning" 464) 225),
 (225,cj "greater" 466 114 2 222),
 (233,hf "greater_counts" (zt 36) (vS "fencefield.turning" 464) 232),
 (232,ck "greater_counts" 472 117 2 3 227 181 479),
 (271,hf "rotations" (zt 42) (vS "fencefield.turning" 464) 270),
 (270,cj "rotations" 524 145 1 267),
 (276,hf "bent_first" (zt 43) (vS "fencefield.turning" 464) 275),
 (275,cj "bent_first" 530 147 1 272),
 (288,hf "coefficients" (zt 45) (vS "fencefield.turning" 464) 287),
 (287,ck "coefficients" 542 153 2 3 282 181 553),
 (281,hf "turning_between" (zt 44) (vS "fencefield.turning" 464) 280),
 (280,cj "turning_between" 536 149 2 277),
 (254,hf "is_turning" (zt 39) (vS "fencefield.turning" 464) 253),
 (253,ck "is_turning" 501 137 1 3 248 181 505),
 (266,hf "led_point" (zt 41) (vS "fencefield.turning" 464) 265),
 (265,ck "led_point" 514 141 2 3 260 181 521),
 (259,hf "led" (zt 40) (vS "fencefield.turning" 464) 258),
 (258,cj "led" 508 139 2 255),
 (247,hf "alike" (zt 38) (vS "fencefield.turning" 464) 246),
 (246,ck "alike" 490 126 2 3 241 181 498),
 (240,hf "turned" (zt 37) (vS "fencefield.turning" 464) 239),
 (239,ck "turned" 482 121 2 3 234 181 487),
 (302,hf "doubled_area" (zt 49) (vS "fencefield.cutting" 556) 301),
 (301,ck "doubled_area" 570 175 1 3 296 181 574),
 (322,hf "holds" (zt 53) (vS "fencefield.cutting" 556) 321),
 (321,cj "holds" 595 191 2 318),
 (317,hf "is_loose" (zt 52) (vS "fencefield.cutting" 556) 316),
 (316,cj "is_loose" 589 188 2 313),
 (312,hf "loose_triangle" (zt 51) (vS "fencefield.cutting" 556) 311),
 (311,cj "loose_triangle" 583 185 1 308),
 (307,hf "corner_triangles" (zt 50) (vS "fencefield.cutting" 556) 306),
 (306,cj "corner_triangles" 577 177 1 303),
 (334,hf "step_into" (zt 55) (vS "fencefield.cutting" 556) 333),
 (333,ck "step_into" 607 199 3 3 328 181 616),
 (327,hf "point_within" (zt 54) (vS "fencefield.cutting" 556) 326),
 (326,cj "point_within" 601 193 1 323),
 (339,hf "split_at" (zt 56) (vS "fencefield.cutting" 556) 338),
 (338,cj "split_at" 619 204 2 335),
 (295,hf "least_triangles" (zt 48) (vS "fencefield.cutting" 556) 294),
 (294,ck "least_triangles" 560 163 1 3 289 181 567),
 (346,hf "_law_cell_at" (zt 58) (vS "law_fencefield_k16_what_is_refused" 625) 345),
 (345,ck "_law_cell_at" 627 208 2 3 340 181 632),
 (353,hf "_law_draw" (zt 59) (vS "law_fencefield_k16_what_is_refused" 625) 352),
 (352,ck "_law_draw" 635 212 3 3 347 181 642),
 (360,hf "_law_rows_by" (zt 60) (vS "law_fencefield_k16_what_is_refused" 625) 359),
 (359,ck "_law_rows_by" 645 216 2 3 354 181 657),
 (367,hf "_law_joined" (zt 61) (vS "law_fencefield_k16_what_is_refused" 625) 366),
 (366,ck "_law_joined" 660 228 3 3 361 181 667),
 (374,hf "_law_spiral" (zt 62) (vS "law_fencefield_k16_what_is_refused" 625) 373),
 (373,ck "_law_spiral" 670 235 1 3 368 181 677),
 (379,hf "_law_flat" (zt 63) (vS "law_fencefield_k16_what_is_refused" 625) 378),
 (378,cj "_law_flat" 680 240 2 375),
 (384,hf "_law_fence_by" (zt 64) (vS "law_fencefield_k16_what_is_refused" 625) 383),
 (383,cj "_law_fence_by" 686 250 2 380),
 (391,hf "_law_sum" (zt 65) (vS "law_fencefield_k16_what_is_refused" 625) 390),
 (390,ck "_law_sum" 692 265 1 3 385 181 700),
 (398,hf "_law_called" (zt 66) (vS "law_fencefield_k16_what_is_refused" 625) 397),
 (397,ck "_law_called" 703 272 4 3 392 181 710),
 (405,hf "_law_word_of" (zt 67) (vS "law_fencefield_k16_what_is_refused" 625) 404),
 (404,ck "_law_word_of" 713 297 1 3 399 181 718),
 (412,hf "_law_tried" (zt 68) (vS "law_fencefield_k16_what_is_refused" 625) 411),
 (411,ck "_law_tried" 721 302 4 3 406 181 729),
 (417,hf "_law_spoilt" (zt 69) (vS "law_fencefield_k16_what_is_refused" 625) 416),
 (416,cj "_law_spoilt" 732 308 4 413),
 (424,hf "law" (zt 70) (vS "law_fencefield_k16_what_is_refused" 625) 423),
 (423,ck "law" 738 321 1 3 418 181 750),
 (24,{cls:=.type "type",data:=UY   {name:=ZY "FenceError",bases:=[Value.type "ValueError"],     mro :=       [Value.ref 24,Value.type "ValueError",Value.type "Exception",Value.type "BaseException",Value.type "object"],     ns:=23,qualname:=ZY "FenceError",subclasses:=[Value.ref 37,Value.ref 49,Value.ref 61]},slots:=#[some (Value.ref 15),none,some (Value.str (ZY "FenceError") 189),some (Value.str (ZY "FenceError") 197),some (Value.builtin "ValueError.__new__"),some (Value.bool true)]}),
 (37,{cls:=.type "type",data:=UY   {name:=ZY "NoFence",bases:=[Value.ref 24],     mro :=       [Value.ref 37,Value.ref 24,Value.type "ValueError",Value.type "Exception",Value.type "BaseException",         Value.type "object"],     ns:=36,qualname:=ZY "NoFence"},slots:=#[some (Value.ref 28),none,some (Value.str (ZY "NoFence") 207),some (Value.str (ZY "NoFence") 215),some (Value.builtin "ValueError.__new__"),some (Value.bool true)]}),
 (49,{cls:=.type "type",data:=UY   {name:=ZY "NoTurning",bases:=[Value.ref 24],     mro :=       [Value.ref 49,Value.ref 24,Value.type "ValueError",Value.type "Exception",Value.type "BaseException",         Value.type "object"],     ns:=48,qualname:=ZY "NoTurning"},slots:=#[some (Value.ref 40),none,some (Value.str (ZY "NoTurning") 223),some (Value.str (ZY "NoTurning") 231),some (Value.builtin "ValueError.__new__"),some (Value.bool true)]}),
 (61,{cls:=.type "type",data:=UY   {name:=ZY "TooWide",bases:=[Value.ref 24],     mro :=       [Value.ref 61,Value.ref 24,Value.type "ValueError",Value.type "Exception",Value.type "BaseException",         Value.type "object"],     ns:=60,qualname:=ZY "TooWide"},slots:=#[some (Value.ref 52),none,some (Value.str (ZY "TooWide") 239),some (Value.str (ZY "TooWide") 247),some (Value.builtin "ValueError.__new__"),some (Value.bool true)]}),
 (23,{cls:=.type "dict",data:=.dict #[en P "__module__" 196 (vS "fencefield.errors" 187),en P "__firstlineno__" 200 ((.int 2 199)),en P "__static_attributes__" 201 (.ref 22),en P "__weakref__" 203 (.ref 25),en P "__doc__" 204 (.none)] 3}),
 (36,{cls:=.type "dict",data:=.dict #[en P "__module__" 214 (vS "fencefield.errors" 187),en P "__firstlineno__" 218 ((.int 4 217)),en P "__static_attributes__" 219 (.ref 35),en P "__doc__" 220 (.none)] 2}),
 (48,{cls:=.type "dict",data:=.dict #[en P "__module__" 230 (vS "fencefield.errors" 187),en P "__firstlineno__" 234 ((.int 6 233)),en P "__static_attributes__" 235 (.ref 47),en P "__doc__" 236 (.none)] 2}),
 (60,{cls:=.type "dict",data:=.dict #[en P "__module__" 246 (vS "fencefield.errors" 187),en P "__firstlineno__" 250 ((.int 8 249)),en P "__static_attributes__" 251 (.ref 59),en P "__doc__" 252 (.none)] 2})]
noncomputable def VQ:Zv:={PySem.Challenge.pw_fencefield_k16_what_is_refused with main:={PySem.Challenge.pw_fencefield_k16_what_is_refused.main with body:=[1,2,3,4,6,7,8,9,10,11,12,13,15,16,17,18,19,20,21,22,23,24,25,26,28,29,30,31,32,33,35,36,37,38,39,40,41,42,43,44,45,47,48,49,50,51,52,53,54,55,56,58,59,60,61,62,63,64,65,66,67,68,69,70].map zt}}
noncomputable abbrev HK:PySem.W.Hook:=PySem.W.kHook KK [3,70,69,77,76,84,83,91,90,98,97,105,104,166,165,173,172,180,179,126,125,159,158,185,184,133,132,140,139,112,111,152,151,147,146,119,118,190,189,197,196,214,213,221,220,207,206,202,201,226,225,233,232,271,270,276,275,288,287,281,280,254,253,266,265,259,258,247,246,240,239,302,301,322,321,317,316,312,311,307,306,334,333,327,326,339,338,295,294,346,345,353,352,360,359,367,366,374,373,379,378,384,383,391,390,398,397,405,404,412,411,417,416,424,423,24,37,49,61,23,36,48,60] (fun _=>by kernel_rfl)
noncomputable abbrev zE(w:Zl):Option Shared:=PySem.W.openEnds treeTable PySem.Challenge.rw_fencefield_k16_what_is_refused.row.prog w 5348
noncomputable abbrev zS(s:Shared):=PySem.W.openSeen VQ [] (importedModules PySem.Challenge.rw_fencefield_k16_what_is_refused.row.prog.main.body) (fun s=>Ue VQ [] s&&Uz (WD PySem.Challenge.rw_fencefield_k16_what_is_refused.row.toRowW) s) true s
set_option maxHeartbeats 0 in
theorem Er(w:Zl):(zE w).map (fun s=>(zS s).1)=some (UG VQ []).1:=by kernel_rfl
set_option maxHeartbeats 0 in
theorem Ea(w:Zl):(zE w).map (fun s=>(zS s).2)=some (UG VQ []).2:=by kernel_rfl
set_option maxHeartbeats 0 in
theorem DY(w:Zl):(zE w).map (fun s=>Vt HK s)=some (Vs HK w):=by kernel_rfl
theorem left:PySem.W.LeftO PySem.Challenge.rw_fencefield_k16_what_is_refused.row.prog VQ [] (fun s=>Ue VQ [] s&&Uz (WD PySem.Challenge.rw_fencefield_k16_what_is_refused.row.toRowW) s) (Vt HK) (Vs HK) 5348:=fun w=>by
 obtain⟨s,h,e⟩:=Ve.mp (Er w);have c:=Ea w;have b:=DY w;unfold zE at h c b;rw[h]at c b ⊢;exact Y_ some (YT (YT e (ZH c)) (ZH b))
end FD
end
section
namespace FS
open PySem PySem.SetTable
noncomputable def fz(mask:Nat)(p:TW):TW:=
 if p.more>0 then {p with j:=p.j+1,more:=p.more-1} else
 let (i,perturb):=leap mask p.i p.perturb
 {p with j:=i,more:=runEnd mask i-i,i,perturb}
noncomputable def st0(mask:Nat)(h:Int):TW:=
 let i:=bits h%(mask+1)
 {j:=i,more:=runEnd mask i-i,i,perturb:=bits h,dummy:=none}
noncomputable def pt(mask:Nat)(h:Int):Nat->TW
 |0=>st0 mask h
 |k+1=>fz mask (pt mask h k)
theorem Au(t:ZX)(h:Int):t.probeStart h=st0 t.mask h:=rfl
theorem iY(mask i:Nat):runEnd mask i-i<=9:=by unfold runEnd;split<;>lia
theorem vO(mask:Nat)(p:TW):(fz mask p).dummy=p.dummy:=by unfold fz;split<;>rfl
theorem zc(mask:Nat)(h:Int)(k:Nat):(pt mask h k).dummy=none:=by
 induction k with
 |zero=>rfl
 |succ k ih=>show (fz mask (pt mask h k)).dummy=none;rw[vO,ih]
noncomputable def base(mask:Nat)(h:Int):Nat->Nat×Nat
 |0=>(bits h%(mask+1),bits h)
 |r+1=>leap mask (base mask h r).1 (base mask h r).2
structure gQ(mask:Nat)(b:Nat×Nat)(p:TW):Prop where
 i:p.i=b.1
 pe:p.perturb=b.2
 m9:p.more<=9
theorem As(mask:Nat)(h:Int)(b:Nat×Nat):∀(m k:Nat),gQ mask b (pt mask h k)->(pt mask h k).more=m->
  ∃d,d<=m+1/\gQ mask (leap mask b.1 b.2) (pt mask h (k+d))/\(pt mask h (k+d)).j=(leap mask b.1 b.2).1:=by
 intro m
 induction m with
 |zero=>
  intro k R hm;refine⟨1,Nat.le_refl _,?_,?_⟩
  ·show gQ mask _ (fz mask (pt mask h k));unfold fz;rw[if_neg (by lia),R.i,R.pe]
   exact⟨rfl,rfl,iY _ _⟩
  ·show (fz mask (pt mask h k)).j=_;unfold fz;rw[if_neg (by lia),R.i,R.pe]
 |succ m ih=>
  intro k R hm;have R':gQ mask b (pt mask h (k+1))/\(pt mask h (k+1)).more=m:=by
   have e:pt mask h (k+1)={pt mask h k with j:=(pt mask h k).j+1,more:=(pt mask h k).more-1}:=by
    show fz mask (pt mask h k)=_;unfold fz;rw[if_pos (by lia)]
   rw[e]
   have:=R.m9
   exact⟨⟨R.i,R.pe,by simp only;lia⟩,by simp only;lia⟩
  obtain⟨d,hd,R2,e2⟩:=ih (k+1) R'.1 R'.2;refine⟨d+1,by lia,?_,?_⟩
  ·rw[show k+(d+1)=k+1+d by lia];exact R2
  ·rw[show k+(d+1)=k+1+d by lia];exact e2
theorem u5(mask:Nat)(h:Int):∀r:Nat,∃k,k<=10*r/\gQ mask (base mask h r) (pt mask h k)/\(pt mask h k).j=(base mask h r).1
 |0=>⟨0,Nat.le_refl _,⟨rfl,rfl,iY _ _⟩,rfl⟩
 |r+1=>by
  obtain⟨k,hk,R,_⟩:=u5 mask h r;obtain⟨d,hd,R2,e2⟩:=As mask h _ _ k R rfl
  have:=R.m9
  exact⟨k+d,by lia,R2,e2⟩
theorem pU(mask:Nat)(h:Int):∀r:Nat,(base mask h r).2=bits h/32^r
 |0=>by show bits h=bits h/32^0;rw[Nat.pow_zero,Nat.div_one]
 |r+1=>by
  show (base mask h r).2/32=_;rw[pU mask h r,Nat.div_div_eq_div_mul,Nat.pow_succ]
theorem BM(h:Int):bits h<2^64:=by
 unfold bits;have h1:=Int.emod_nonneg h (show (2^64:Int)≠0 by decide)
 have h2:=Int.emod_lt_of_pos h (show (0:Int)<2^64 by decide)
 have:((2:Int)^64)=((2^64:Nat):Int):=by decide
 lia
theorem wV(mask:Nat)(h:Int){r:Nat}(hr:13<=r):(base mask h r).2=0:=by
 rw[pU];have h1:=BM h;have h2:(32:Nat)^13<=32^r:=Nat.pow_le_pow_right (by decide) hr
 exact Nat.div_eq_of_lt (by have:(2:Nat)^64<32^13:=by decide
                            lia)
noncomputable def lcg(mask:Nat):Nat->Nat->Nat
 |0,i=>i
 |q+1,i=>lcg mask q ((i*5+1)%(mask+1))
theorem mG(mask:Nat)(h:Int):∀(q r:Nat),13<=r->(base mask h (r+q)).1=lcg mask q (base mask h r).1
 |0,r,_=>rfl
 |q+1,r,hr=>by
  rw[show r+(q+1)=(r+1)+q by lia,mG mask h q (r+1) (by lia)]
  show lcg mask q (leap mask (base mask h r).1 (base mask h r).2).1=lcg mask q (((base mask h r).1*5+1)%(mask+1));unfold leap
  have:(base mask h (r+1)).2=0:=wV mask h (by lia)
  have e:(base mask h r).2/32=0:=this;rw[e]
theorem xQ:∀i,i<8->∀j,j<8->∃q,q<8/\lcg 7 q i=j:=by decide +kernel
theorem uE:((Z4 32).all fun i=>(Z4 32).all fun j=>(Z4 32).any fun q=>lcg 31 q i==j)=true:=by decide +kernel
theorem lu(mask:Nat)(h:Int)(r:Nat):(base mask h r).1<mask+1:=by
 cases r with
 |zero=>exact Nat.mod_lt _ (by lia)
 |succ r=>exact Nat.mod_lt _ (by lia)
theorem Cq{mask:Nat}(hm:mask=7\/mask=31)(h:Int){j:Nat}(hj:j<=mask):∃k,k<=10*(mask+13)/\(pt mask h k).j=j:=by
 have hq:∃q,q<=mask/\lcg mask q (base mask h 13).1=j:=by
  rcases hm with e|e
  ·subst e;obtain⟨q,hq,e⟩:=xQ _ (lu 7 h 13) j (by lia)
   exact⟨q,by lia,e⟩
  ·subst e;have c:=uE;simp only[Yt,YA,Zy,beq_iff_eq]at c;obtain⟨q,hq,e⟩:=c _ (lu 31 h 13) j (by lia)
   exact⟨q,by lia,e⟩
 obtain⟨q,hq,e⟩:=hq;obtain⟨k,hk,_,e2⟩:=u5 mask h (13+q);refine⟨k,by lia,?_⟩
 rw[e2,mG mask h q 13 (Nat.le_refl _),e]
noncomputable def jj(xs:Array Nat):Prop:=∀i k,i<k->k<xs.size->xs.getD i 0<xs.getD k 0
theorem zO{xs:Array Nat}(R:jj xs)(j:Nat):∀(fuel lo hi:Nat),lo<=hi->hi<=xs.size->hi-lo<=fuel->(∀i,i<lo->xs.getD i 0<j)->(∀i,hi<=i->i<xs.size->j<=xs.getD i 0)->
  below.go xs j fuel lo hi<=xs.size/\(∀i,i<below.go xs j fuel lo hi->xs.getD i 0<j)/\(∀i,below.go xs j fuel lo hi<=i->i<xs.size->j<=xs.getD i 0):=by
 intro fuel
 induction fuel with
 |zero=>
  intro lo hi h1 h2 h3 h4 h5
  have:lo=hi:=by lia
  subst this;exact⟨h2,h4,h5⟩
 |succ f ih=>
  intro lo hi h1 h2 h3 h4 h5;unfold below.go;by_cases c:lo<hi
  ·rw[if_pos c];have hm:(lo+hi)/2<xs.size:=by lia
   have eD:∀d,xs.getD ((lo+hi)/2) d=xs.getD ((lo+hi)/2) 0:=by
    intro d;simp only[UZ,dif_pos hm]
   simp only[eD];by_cases c2:xs.getD ((lo+hi)/2) 0<j
   ·rw[if_pos c2];refine ih _ _ (by lia) h2 (by lia) (fun i hi'=>?_) h5
    by_cases e:i=(lo+hi)/2
    ·subst e;exact c2
    ·exact Nat.lt_trans (R i _ (by lia) hm) c2
   ·rw[if_neg c2];refine ih _ _ (by lia) (by lia) (by lia) h4 (fun i hi' hs=>?_)
    by_cases e:i=(lo+hi)/2
    ·subst e;lia
    ·have:=R _ i (show (lo+hi)/2<i by lia) hs
     lia
  ·rw[if_neg c]
   have:lo=hi:=by lia
   subst this;exact⟨h2,h4,h5⟩
theorem fI{xs:Array Nat}(R:jj xs)(j:Nat):below xs j<=xs.size/\(∀i,i<below xs j->xs.getD i 0<j)/\(∀i,below xs j<=i->i<xs.size->j<=xs.getD i 0):=
 zO R j xs.size 0 xs.size (Nat.zero_le _) (Nat.le_refl _) (by lia) (fun _ h=>absurd h (by lia)) (fun i h1 h2=>by lia)
theorem oR{xs:Array Nat}{i:Nat}(h:i<xs.size):xs[i]?=some (xs.getD i 0):=by
 rw[Zb h];simp only[UZ,dif_pos h];rfl
theorem pR{t:ZX}(R:jj t.place){i j:Nat}(hi:i<t.place.size)(e:t.place.getD i 0=j):t.slot j=.live i:=by
 have b:=fI R j;have hb:below t.place j=i:=by
  rcases Nat.lt_trichotomy (below t.place j) i with c|c|c
  ·have:=b.2.2 (below t.place j) (Nat.le_refl _) (by lia)
   have:=R _ i c hi
   lia
  ·exact c
  ·have:=b.2.1 i c
   lia
 unfold TK;simp only[hb,oR hi,e];simp
theorem wz{t:ZX}(R:jj t.place)(D:t.dummies=#[]){j:Nat}(h:∀i,i<t.place.size->t.place.getD i 0≠j):t.slot j=.empty:=by
 have b:=fI R j;unfold TK;have h1:(t.place[below t.place j]? == some j)=false:=by
  by_cases c:below t.place j<t.place.size
  ·rw[oR c];exact X8.mpr (fun e=>h _ c (ZH e))
  ·rw[YB (by lia)];rfl
 have h2:has t.dummies j=false:=by rw[D];rfl
 simp only[h1,h2,Zw,if_false]
noncomputable def Occ(t:ZX)(j:Nat):Prop:=∃i,i<t.place.size/\t.place.getD i 0=j
structure TOk(t:ZX)(hs:Nat->Int):Prop where
 dm:t.dummies=#[]
 ri:jj t.place
 le:∀i,i<t.place.size->t.place.getD i 0<=t.mask
 mm:t.mask=7\/t.mask=31
 sz:t.place.size<=t.mask
 rc:∀i,i<t.place.size->∃k,(pt t.mask (hs i) k).j=t.place.getD i 0/\∀k',k'<k->Occ t (pt t.mask (hs i) k').j
theorem Dr:∀(m:Nat) (xs:Array Nat),jj xs->xs.size<=m->∃j,j<=m/\∀i,i<xs.size->xs.getD i 0≠j:=by
 intro m xs R hm;have key:∀n,n<=xs.size->(∀i,i<n->xs.getD i 0=i)\/∃j,j<n/\∀i,i<xs.size->xs.getD i 0≠j:=by
  intro n
  induction n with
  |zero=>intro _;exact .inl (fun i h=>absurd h (by lia))
  |succ n ih=>
   intro hn;rcases ih (by lia) with h|⟨j,h1,h2⟩
   ·by_cases c:xs.getD n 0=n
    ·left;intro i hi;by_cases e:i=n
     ·subst e;exact c
     ·exact h i (by lia)
    ·right;refine⟨n,by lia,fun i hi e=>?_⟩
     rcases Nat.lt_trichotomy i n with d|d|d
     ·have:=h i d;lia
     ·subst d;exact c e
     ·have Eu:=R n i d hi;have hge:n<=xs.getD n 0:=by
       by_cases z:n=0
       ·lia
       ·have:=R (n-1) n (by lia) (by lia)
        have:=h (n-1) (by lia)
        lia
      lia
   ·exact .inr ⟨j,by lia,h2⟩
 rcases key xs.size (Nat.le_refl _) with h|⟨j,h1,h2⟩
 ·exact⟨xs.size,hm,fun i hi e=>by have:=h i hi;lia⟩
 ·exact⟨j,by lia,h2⟩
theorem TOk.free{t:ZX}{hs:Nat->Int}(ok:TOk t hs)(h:Int):∃k,k<=10*(t.mask+13)/\¬Occ t (pt t.mask h k).j:=by
 obtain⟨j,hj,hn⟩:=Dr t.mask t.place ok.ri ok.sz;obtain⟨k,hk,e⟩:=Cq ok.mm h hj;exact⟨k,hk,fun ⟨i,hi,q⟩=>hn i hi (q.trans e)⟩
inductive Meets(t:ZX)(hs:Nat->Int)(h:Int)(k:Nat):Met->Prop
 |free (k2:Nat):k<=k2->¬Occ t (pt t.mask h k2).j->(∀k',k<=k'->k'<k2->∃i,i<t.place.size/\t.place.getD i 0=(pt t.mask h k').j/\hs i≠h)->Meets t hs h k (.empty (pt t.mask h k2).j none)
 |cand (k2 i:Nat):k<=k2->i<t.place.size->t.place.getD i 0=(pt t.mask h k2).j->hs i=h->(∀k',k<=k'->k'<k2->∃i,i<t.place.size/\t.place.getD i 0=(pt t.mask h k').j/\hs i≠h)->
  Meets t hs h k (.candidate (pt t.mask h k2).j i (pt t.mask h (k2+1)))
theorem yZ{t:ZX}{hs FL:Nat->Int}(ok:TOk t FL)(h:Int)(K:Nat)(hK:¬Occ t (pt t.mask h K).j):∀(fuel k:Nat),k<=K->K-k<fuel->∃m,probe.go t hs h fuel (pt t.mask h k)=some m/\Meets t hs h k m:=by
 intro fuel
 induction fuel with
 |zero=>intro k _ h2;lia
 |succ f ih=>
  intro k hk hf;by_cases c:Occ t (pt t.mask h k).j
  ·obtain⟨i,hi,e⟩:=id c;have hs':=pR ok.ri hi e;by_cases c2:hs i=h
   ·refine⟨.candidate (pt t.mask h k).j i (pt t.mask h (k+1)),?_,.cand k i (Nat.le_refl _) hi e c2 (fun k' h1 h2=>absurd h2 (by lia))⟩
    unfold probe.go;simp only[hs',c2,beq_self_eq_true,XR]
    rfl
   ·have hkK:k≠K:=fun e=>hK (e ▸ c);obtain⟨m,hm,M⟩:=ih (k+1) (by lia) (by lia)
    refine⟨m,?_,?_⟩
    ·unfold probe.go
     have:(hs i==h)=false:=by simpa using c2
     simp only[hs',this,Zw,if_false];exact hm
    ·have one:∀k2,k+1<=k2->(∀k',k+1<=k'->k'<k2->∃i,i<t.place.size/\t.place.getD i 0=(pt t.mask h k').j/\hs i≠h)->
       ∀k',k<=k'->k'<k2->∃i,i<t.place.size/\t.place.getD i 0=(pt t.mask h k').j/\hs i≠h:=by
      intro k2 _ q k' h1 h2;by_cases e':k'=k
      ·subst e';exact⟨i,hi,e,c2⟩
      ·exact q k' (by lia) h2
     cases M with
     |free k2 h1 h2 h3=>exact .free k2 (by lia) h2 (one k2 h1 h3)
     |cand k2 i' h1 h2 h3 h4 h5=>exact .cand k2 i' (by lia) h2 h3 h4 (one k2 h1 h5)
  ·refine⟨.empty (pt t.mask h k).j none,?_,.free k (Nat.le_refl _) c (fun k' h1 h2=>absurd h2 (by lia))⟩
   have hs':=wz ok.ri ok.dm (j:=(pt t.mask h k).j) (fun i hi e=>c ⟨i,hi,e⟩);unfold probe.go;simp only[hs',zc]
theorem lJ{t:ZX}{hs FL:Nat->Int}(ok:TOk t FL)(h:Int)(K:Nat)(hK:¬Occ t (pt t.mask h K).j)(hb:K<=10*(t.mask+13)){k:Nat}(hk:k<=K):∃m,t.probe hs h (pt t.mask h k)=some m/\Meets t hs h k m:=
 yZ ok h K hK _ k hk (by unfold turns;lia)
theorem dR{α:Type}(xs:Array α)(p:Nat)(x:α)(hp:p<=xs.size):(insertAt xs p x).size=xs.size+1:=by
 unfold insertAt;simp;lia
theorem dM{α:Type}(xs:Array α)(p:Nat)(x:α)(hp:p<=xs.size)(i:Nat):(insertAt xs p x)[i]?=if i<p then xs[i]? else if i=p then some x else xs[i-1]?:=by
 unfold insertAt;rw[Array.getElem?_append];have hs:((xs.extract 0 p).push x).size=p+1:=by simp;lia
 rw[hs];by_cases c:i<p+1
 ·rw[if_pos c,WL];have Fv:(xs.extract 0 p).size=p:=by simp;lia
  rw[Fv];by_cases c2:i=p
  ·subst c2;simp
  ·rw[if_neg c2,if_pos (by lia),Vd]
   rw[if_pos (by lia)];simp
 ·rw[if_neg c,if_neg (by lia),if_neg (by lia),Vd]
  by_cases c3:i-1<xs.size
  ·rw[if_pos (by lia)];congr 1;lia
  ·rw[if_neg (by lia),YB (by lia)]
theorem qa(xs:Array Nat)(p x:Nat)(hp:p<=xs.size)(i:Nat):(insertAt xs p x).getD i 0=if i<p then xs.getD i 0 else if i=p then x else xs.getD (i-1) 0:=by
 have:=dM xs p x hp i
 rw[Zc,this]
 (repeat' split)<;>simp[Zc]
noncomputable def vo(hs:Nat->Int)(p:Nat)(h:Int)(i:Nat):Int:=if i<p then hs i else if i=p then h else hs (i-1)
theorem kg{t:ZX}{hs:Nat->Int}(ok:TOk t hs)(j:Nat):(t.put j).1={t with place:=insertAt t.place (below t.place j) j}:=by
 unfold SetTable.put
 have:has t.dummies j=false:=by rw[ok.dm];rfl
 simp only[this,Zw,if_false]
theorem TOk.put{t:ZX}{hs:Nat->Int}(ok:TOk t hs){h:Int}{k:Nat}(hf:¬Occ t (pt t.mask h k).j)(hp:∀k',k'<k->Occ t (pt t.mask h k').j)(hj:(pt t.mask h k).j<=t.mask)(hsz:t.place.size+1<=t.mask):
  TOk (t.put (pt t.mask h k).j).1 (vo hs (below t.place (pt t.mask h k).j) h):=by
 have e:=kg ok (pt t.mask h k).j;have b:=fI ok.ri (pt t.mask h k).j;have mask':(t.put (pt t.mask h k).j).1.mask=t.mask:=by rw[e]
 have place':(t.put (pt t.mask h k).j).1.place=insertAt t.place (below t.place (pt t.mask h k).j) (pt t.mask h k).j:=by rw[e]
 generalize hj':(pt t.mask h k).j=j at *
 have sz':=dR t.place (below t.place j) j b.1;have gd:=qa t.place (below t.place j) j b.1;have occ':∀x,Occ t x->Occ (t.put j).1 x:=by
  rintro x ⟨i,hi,q⟩;unfold Occ;rw[place'];by_cases c:i<below t.place j
  ·exact⟨i,by lia,by rw[gd,if_pos c];exact q⟩
  ·exact⟨i+1,by lia,by rw[gd,if_neg (by lia),if_neg (by lia)];exact q⟩
 refine⟨by rw[e];exact ok.dm,?_,?_,by rw[mask'];exact ok.mm,by rw[mask',place',sz'];exact hsz,?_⟩
 ·rw[place'];intro i k2 h1 h2;rw[sz']at h2;rw[gd,gd];by_cases c1:k2<below t.place j
  ·rw[if_pos (by lia),if_pos c1];exact ok.ri i k2 h1 (by lia)
  ·by_cases c2:k2=below t.place j
   ·rw[if_pos (by lia),if_neg (by lia),if_pos c2];exact b.2.1 i (by lia)
   ·rw[if_neg c1,if_neg c2];have hge:=b.2.2 (k2-1) (by lia) (by lia)
    by_cases c3:i<below t.place j
    ·rw[if_pos c3]
     have:=b.2.1 i c3
     lia
    ·by_cases c4:i=below t.place j
     ·rw[if_neg c3,if_pos c4]
      have:t.place.getD (k2-1) 0≠j:=fun q=>hf ⟨k2-1,by lia,q⟩
      lia
     ·rw[if_neg c3,if_neg c4];exact ok.ri (i-1) (k2-1) (by lia) (by lia)
 ·intro i hi;rw[place',sz']at hi;rw[place',gd,mask']
  (repeat' split)
  ·exact ok.le i (by lia)
  ·exact hj
  ·exact ok.le (i-1) (by lia)
 ·intro i hi;rw[place',sz']at hi;rw[place',gd,mask'];unfold vo;by_cases c1:i<below t.place j
  ·simp only[if_pos c1];obtain⟨k1,q1,q2⟩:=ok.rc i (by lia)
   exact⟨k1,q1,fun k' hk'=>occ' _ (q2 k' hk')⟩
  ·by_cases c2:i=below t.place j
   ·simp only[if_neg c1,if_pos c2];exact⟨k,hj',fun k' hk'=>occ' _ (hp k' hk')⟩
   ·simp only[if_neg c1,if_neg c2];obtain⟨k1,q1,q2⟩:=ok.rc (i-1) (by lia)
    exact⟨k1,q1,fun k' hk'=>occ' _ (q2 k' hk')⟩
theorem nC{mask:Nat}(h:Int)(k:Nat):(pt mask h k).j+(pt mask h k).more<=mask:=by
 have run:∀i,i<mask+1->i+(runEnd mask i-i)<=mask:=by intro i hi;unfold runEnd;split<;>lia
 induction k with
 |zero=>exact run _ (Nat.mod_lt _ (by lia))
 |succ k ih=>
  show (fz mask (pt mask h k)).j+(fz mask (pt mask h k)).more<=mask;unfold fz
  split
  ·simp only;lia
  ·exact run _ (Nat.mod_lt _ (by lia))
theorem pY(f m:Nat)(led:Bool)(hs:Nat->Int):TOk (.fresh f m led) hs:=
 ⟨rfl,fun _ _ _ h=>absurd h (by show ¬_<0;lia),fun _ h=>absurd h (by show ¬_<0;lia),.inl rfl,Nat.zero_le _,fun _ h=>absurd h (by show ¬_<0;lia)⟩
theorem uG(mask:Nat)(h:Int)(b:Nat×Nat){k:Nat}(R:gQ mask b (pt mask h k))(hj:(pt mask h k).j=b.1)(hm:(pt mask h k).more=runEnd mask b.1-b.1):∀d,d<=runEnd mask b.1-b.1->
  gQ mask b (pt mask h (k+d))/\(pt mask h (k+d)).j=b.1+d/\(pt mask h (k+d)).more=runEnd mask b.1-b.1-d:=by
 intro d
 induction d with
 |zero=>intro _;exact⟨R,hj,by lia⟩
 |succ d ih=>
  intro hd;obtain⟨R',j',m'⟩:=ih (by lia)
  have e:pt mask h (k+(d+1))={pt mask h (k+d) with j:=(pt mask h (k+d)).j+1,more:=(pt mask h (k+d)).more-1}:=by
   show fz mask (pt mask h (k+d))=_;unfold fz;rw[if_pos (by lia)]
  rw[e]
  have:=R'.m9
  exact⟨⟨R'.i,R'.pe,by simp only;lia⟩,by simp only;lia,by simp only;lia⟩
theorem Av(mask:Nat)(h:Int)(b:Nat×Nat){k:Nat}(R:gQ mask b (pt mask h k))(hj:(pt mask h k).j=b.1)(hm:(pt mask h k).more=runEnd mask b.1-b.1):
  gQ mask (leap mask b.1 b.2) (pt mask h (k+(runEnd mask b.1-b.1)+1))/\(pt mask h (k+(runEnd mask b.1-b.1)+1)).j=(leap mask b.1 b.2).1/\
   (pt mask h (k+(runEnd mask b.1-b.1)+1)).more=runEnd mask (leap mask b.1 b.2).1-(leap mask b.1 b.2).1:=by
 obtain⟨R',j',m'⟩:=uG mask h b R hj hm _ (Nat.le_refl _);have e:pt mask h (k+(runEnd mask b.1-b.1)+1)={pt mask h (k+(runEnd mask b.1-b.1)) with j:=(leap mask b.1 b.2).1,more:=runEnd mask (leap mask b.1 b.2).1-(leap mask b.1 b.2).1,i:=(leap mask b.1 b.2).1,perturb:=(leap mask b.1 b.2).2}:=by
  show fz mask (pt mask h (k+(runEnd mask b.1-b.1)))=_;unfold fz;rw[if_neg (by lia),R'.i,R'.pe]
 rw[e];exact⟨⟨rfl,rfl,iY _ _⟩,rfl,rfl⟩
theorem Bz{mask:Nat}(hm:mask=7\/mask=31)(h:Int){j:Nat}(hj:j<=mask):∃r,r<=mask+13/\(base mask h r).1=j:=by
 have hq:∃q,q<=mask/\lcg mask q (base mask h 13).1=j:=by
  rcases hm with e|e
  ·subst e;obtain⟨q,hq,e⟩:=xQ _ (lu 7 h 13) j (by lia)
   exact⟨q,by lia,e⟩
  ·subst e;have c:=uE;simp only[Yt,YA,Zy,beq_iff_eq]at c;obtain⟨q,hq,e⟩:=c _ (lu 31 h 13) j (by lia)
   exact⟨q,by lia,e⟩
 obtain⟨q,hq,e⟩:=hq;exact⟨13+q,by lia,by rw[mG mask h q 13 (Nat.le_refl _),e]⟩
noncomputable def gh(owner:Array (Option Nat))(j:Nat):Prop:=(owner.getD j (some 0)).isNone=true
theorem xc{mask:Nat}(h:Int)(owner:Array (Option Nat))(R:Nat)(hR:gh owner (base mask h R).1):∀(fuel r k:Nat),r<=R->R-r<fuel->gQ mask (base mask h r) (pt mask h k)->(pt mask h k).j=(base mask h r).1->
  (pt mask h k).more=runEnd mask (base mask h r).1-(base mask h r).1->(∀k',k'<k->¬gh owner (pt mask h k').j)->
  ∃k2,layClean.free mask owner fuel (base mask h r).1 (base mask h r).2=some (pt mask h k2).j/\gh owner (pt mask h k2).j/\∀k',k'<k2->¬gh owner (pt mask h k').j:=by
 intro fuel
 induction fuel with
 |zero=>intro r k _ h2;lia
 |succ f ih=>
  intro r k hr hf IR hj hm before;have pos:=uG mask h _ IR hj hm;unfold layClean.free;have hrange:∀d,d<runEnd mask (base mask h r).1+1-(base mask h r).1->d<=runEnd mask (base mask h r).1-(base mask h r).1:=by intro d hd;lia
  cases hfd:(Z4 (runEnd mask (base mask h r).1+1-(base mask h r).1)).find? fun k=>(owner.getD ((base mask h r).1+k) (some 0)).isNone with
  |some d=>
   simp only;have hd:=Zy.mp (Yn hfd);have hp:=VC hfd;have pd:=pos d (hrange d hd);refine⟨k+d,by rw[pd.2.1],?_,?_⟩
   ·unfold gh;rw[pd.2.1];exact hp
   ·intro k' hk';by_cases c:k'<k
    ·exact before k' c
    ·obtain⟨d',rfl⟩:∃d',k'=k+d':=⟨k'-k,by lia⟩
     have hd':d'<d:=by lia
     have pd':=pos d' (by have:=hrange d hd;lia)
     unfold gh;rw[pd'.2.1];intro q;have z:=(List.find?_range_eq_some.mp hfd).2.2 d' hd'
     revert z
     show (!(owner.getD ((base mask h r).1+d') (some 0)).isNone)=true->False;rw[q];intro z;exact ZM z
  |none=>
   simp only;have EE:=Ur.mp hfd;have nr:=Av mask h _ IR hj hm;have hrR:r≠R:=by
    rintro rfl;have hge:(base mask h r).1<=runEnd mask (base mask h r).1:=by unfold runEnd;split<;>lia
    have:=EE 0 (Zy.mpr (by lia))
    unfold gh at hR;rw[Nat.add_zero]at this;exact this hR
   refine ih (r+1) _ (by lia) (by lia) nr.1 nr.2.1 nr.2.2 ?_
   intro k' hk';by_cases c:k'<k
   ·exact before k' c
   ·obtain⟨d',rfl⟩:∃d',k'=k+d':=⟨k'-k,by lia⟩
    have pd':=pos d' (by lia)
    have:=EE d' (Zy.mpr (by unfold runEnd at hk' ⊢;split<;>(rename_i z;(try rw[if_pos z]at hk');(try rw[if_neg z]at hk');lia)))
    unfold gh;rw[pd'.2.1];exact this
noncomputable def fE(owner:Array (Option Nat))(j:Nat):Bool:=(owner.getD j none).isSome
structure Lay(mask:Nat)(hsL:Nat->Int)(owner:Array (Option Nat))(k:Nat):Prop where
 size:owner.size=mask+1
 own:∀j a,owner.getD j none=some a->a<k/\j<=mask
 all:∀a,a<k->∃j,owner.getD j none=some a
 inj:∀j j' a,owner.getD j none=some a->owner.getD j' none=some a->j=j'
 cnt:(Z4 (mask+1)).countP (fE owner)=k
 rc:∀j a,owner.getD j none=some a->∃kk,(pt mask (hsL a) kk).j=j/\∀k',k'<kk->¬gh owner (pt mask (hsL a) k').j
theorem Aa{owner:Array (Option Nat)}{j:Nat}(h:j<owner.size)(d d':Option Nat):owner.getD j d=owner.getD j d':=by
 simp only[UZ,dif_pos h]
theorem iG{owner:Array (Option Nat)}{j:Nat}(h:j<owner.size):gh owner j↔fE owner j=false:=by
 unfold gh fE;rw[Aa h (some 0) none];cases owner.getD j none<;>simp
theorem v0(p q:Nat->Bool)(j:Nat)(hp:p j=false)(hq:q j=true)(ho:∀i,i≠j->p i=q i):∀n,(Z4 n).countP q=(Z4 n).countP p+if j<n then 1 else 0:=by
 intro n
 induction n with
 |zero=>simp
 |succ n ih=>
  rw[Ye,Uq,Uq,ih,VI,VI];by_cases e:n=j
  ·subst e;simp[hp,hq]
  ·rw[ho n e]
   have:(if j<n then 1 else 0)=if j<n+1 then 1 else 0:=by
    by_cases c:j<n
    ·rw[if_pos c,if_pos (show j<n+1 by lia)]
    ·rw[if_neg c,if_neg (show ¬j<n+1 by lia)]
   rw[this];lia
theorem setD{owner:Array (Option Nat)}{j:Nat}(h:j<owner.size)(v:Option Nat)(i:Nat):(owner.setIfInBounds j v).getD i none=if i=j then v else owner.getD i none:=by
 rw[Zc,Array.getElem?_setIfInBounds];by_cases e:i=j
 ·subst e;simp[h]
 ·rw[if_neg e,if_neg (fun z=>e z.symm),Zc]
theorem Lay.step{mask:Nat}{hsL:Nat->Int}{owner:Array (Option Nat)}{k:Nat}(hm:mask=7\/mask=31)(L:Lay mask hsL owner k)(hk:k<=mask):
  ∃j,layClean.free mask owner (turns mask) (bits (hsL k)%(mask+1)) (bits (hsL k))=some j/\Lay mask hsL (owner.setIfInBounds j (some k)) (k+1):=by
 have exF:∃j,j<=mask/\gh owner j:=by
  apply Z9;intro no;have all:∀j∈Z4 (mask+1),fE owner j=true:=by
   intro j hj;have hj':=Zy.mp hj;cases e:fE owner j with
   |true=>rfl
   |false=>exact absurd ⟨j,by lia,(iG (by rw[L.size];lia)).mpr e⟩ no
  have:=List.countP_eq_length.mpr all
  rw[L.cnt,Zd]at this;lia
 obtain⟨j0,hj0,f0⟩:=exF;obtain⟨R,hR,eR⟩:=Bz hm (hsL k) hj0;obtain⟨k2,e2,f2,b2⟩:=xc (mask:=mask) (hsL k) owner R (by rw[eR];exact f0) (turns mask) 0 0 (Nat.zero_le _) (by unfold turns;lia) ⟨rfl,rfl,iY _ _⟩ rfl rfl (fun _ h=>absurd h (by lia))
 have hj:(pt mask (hsL k) k2).j<owner.size:=by have:=nC (mask:=mask) (hsL k) k2;rw[L.size];lia
 refine⟨(pt mask (hsL k) k2).j,e2,?_⟩;have fr:=(iG hj).mp f2;have none2:owner.getD (pt mask (hsL k) k2).j none=none:=by
  unfold fE at fr;cases e:owner.getD (pt mask (hsL k) k2).j none with
  |none=>rfl
  |some a=>rw[e]at fr;exact ZM fr
 generalize hj':(pt mask (hsL k) k2).j=j at *
 have sD:=setD hj (some k);have nf:∀i,i<=mask->¬gh owner i->¬gh (owner.setIfInBounds j (some k)) i:=by
  intro i hi h1 h2;have s1:i<owner.size:=by rw[L.size];lia
  have s2:i<(owner.setIfInBounds j (some k)).size:=by rw[Vz];exact s1
  have o1:fE owner i=true:=by
   cases e:fE owner i with
   |true=>rfl
   |false=>exact absurd ((iG s1).mpr e) h1
  have o2:=(iG s2).mp h2;unfold fE at o1 o2;rw[sD]at o2;by_cases e:i=j
  ·rw[if_pos e]at o2;exact ZM o2
  ·rw[if_neg e,o1]at o2;exact ZM o2
 have ple:∀h k',(pt mask h k').j<=mask:=fun h k'=>by have:=nC (mask:=mask) h k';lia
 refine⟨by rw[Vz];exact L.size,?_,?_,?_,?_,?_⟩
 ·intro i a e;rw[sD]at e;by_cases c:i=j
  ·rw[if_pos c]at e;cases e;exact⟨by lia,by rw[c,<-hj'];exact ple _ _⟩
  ·rw[if_neg c]at e;have:=L.own i a e;exact⟨by lia,this.2⟩
 ·intro a ha;by_cases c:a=k
  ·exact⟨j,by rw[sD,if_pos rfl,c]⟩
  ·obtain⟨i,e⟩:=L.all a (by lia)
   have ne:i≠j:=fun z=>by rw[z,none2]at e;cases e
   exact⟨i,by rw[sD,if_neg ne];exact e⟩
 ·intro i i' a e e';rw[sD]at e e';by_cases c:i=j<;>by_cases c':i'=j
  ·lia
  ·rw[if_pos c]at e;rw[if_neg c']at e';cases e;have:=(L.own i' k e').1;lia
  ·rw[if_neg c]at e;rw[if_pos c']at e';cases e';have:=(L.own i k e).1;lia
  ·rw[if_neg c]at e;rw[if_neg c']at e';exact L.inj i i' a e e'
 ·rw[v0 (fE owner) (fE (owner.setIfInBounds j (some k))) j fr (by unfold fE;rw[sD,if_pos rfl];rfl) (fun i hi=>by unfold fE;rw[sD,if_neg hi]) (mask+1),L.cnt]
  have:j<mask+1:=by have:=L.size;lia
  rw[if_pos this]
 ·intro i a e;rw[sD]at e;by_cases c:i=j
  ·rw[if_pos c]at e;cases e;exact⟨k2,by rw[hj',c],fun k' h'=>nf _ (ple _ _) (b2 k' h')⟩
  ·rw[if_neg c]at e;obtain⟨kk,q1,q2⟩:=L.rc i a e;exact⟨kk,q1,fun k' h'=>nf _ (ple _ _) (q2 k' h')⟩
noncomputable def uu(mask:Nat)(acc:Option (Array (Option Nat)×Nat))(h:Int):Option (Array (Option Nat)×Nat):=do
 let (owner,k) <-acc
 let j <-layClean.free mask owner (turns mask) (bits h%(mask+1)) (bits h)
 pure (owner.setIfInBounds j (some k),k+1)
theorem uX{mask:Nat}{hsL:Nat->Int}(hm:mask=7\/mask=31):∀(l:List Int) (k:Nat) (owner:Array (Option Nat)),(∀(i:Nat) h,l[i]?=some h->hsL (k+i)=h)->Lay mask hsL owner k->k+l.length<=mask->
  ∃owner',l.foldl (uu mask) (some (owner,k))=some (owner',k+l.length)/\Lay mask hsL owner' (k+l.length)
 | [],k,owner,_,L,_=>⟨owner,rfl,L⟩
 |h::l,k,owner,e,L,hk=>by
  rw[Zg]at hk;obtain⟨j,e1,L1⟩:=L.step hm (by lia)
  have eh:hsL k=h:=e 0 h rfl;obtain⟨o2,e2,L2⟩:=uX hm l (k+1) _ (fun i h' q=>by rw[<-e (i+1) h' q];congr 1;lia) L1 (by lia)
  refine⟨o2,?_,by rw[Zg,show k+(l.length+1)=k+1+l.length by lia];exact L2⟩
  rw[List.foldl_cons,Zg,show k+(l.length+1)=k+1+l.length by lia,<-e2]
  congr 1;show (layClean.free mask owner (turns mask) (bits h%(mask+1)) (bits h)).bind _=_;rw[<-eh,e1]
  rfl
theorem y_(mask:Nat)(hsL:Nat->Int):Lay mask hsL (VD (mask+1) none) 0:=by
 have g:∀j,(VD (mask+1) (none:Option Nat)).getD j none=none:=by
  intro j;rw[Zc,Array.getElem?_replicate]
  split<;>rfl
 refine⟨Array.size_replicate,fun j a e=>?_,fun a h=>absurd h (by lia),fun j j' a e=>?_,?_,fun j a e=>?_⟩
 ·rw[g]at e;cases e
 ·rw[g]at e;cases e
 ·rw[List.countP_eq_zero.mpr];intro j _;unfold fE;rw[g];simp
 ·rw[g]at e;cases e
theorem tG{mask:Nat}(hm:mask=7\/mask=31)(hashes:Array Int)(hn:hashes.size<=mask):∃owner,layClean mask hashes=some owner/\Lay mask (fun a=>hashes.getD a 0) owner hashes.size:=by
 obtain⟨o,e,L⟩:=uX (hsL:=fun a=>hashes.getD a 0) hm hashes.toList 0 _ (fun i h q=>by
  rw[Nat.zero_add,Zc];rw[Y4]at q;rw[q];rfl) (y_ mask _) (by rw[ZG];lia)
 rw[ZG,Nat.zero_add]at e L;refine⟨o,?_,L⟩;unfold layClean;rw[<-Array.foldl_toList];show Option.map _ (hashes.toList.foldl (uu mask) (some (VD (mask+1) none,0)))=_;rw[e]
 rfl
noncomputable def bc(mask:Nat)(owner:Array (Option Nat)):List (Nat×Nat):=(Z4 (mask+1)).filterMap fun j=>(owner.getD j none).map (j,·)
theorem mq{mask:Nat}{owner:Array (Option Nat)}{j a:Nat}:(j,a)∈bc mask owner↔j<mask+1/\owner.getD j none=some a:=by
 unfold bc;rw[XA];constructor
 ·rintro⟨j',hj',e⟩;cases q:owner.getD j' none with
  |none=>rw[q]at e;cases e
  |some a'=>
   rw[q]at e;have e':(j',a')=(j,a):=ZH e;cases e';exact⟨Zy.mp hj',q⟩
 ·rintro⟨h1,h2⟩;exact⟨j,Zy.mpr h1,by rw[h2];rfl⟩
theorem tZ(mask:Nat)(owner:Array (Option Nat)):(bc mask owner).Pairwise fun x y=>x.1<y.1:=by
 unfold bc;rw[List.pairwise_filterMap];refine List.Pairwise.imp ?_ (List.pairwise_lt_range (n:=mask+1));intro a b hab x hx y hy;cases q:owner.getD a none with
 |none=>rw[q]at hx;cases hx
 |some _=>
  cases q':owner.getD b none with
  |none=>rw[q']at hy;cases hy
  |some _=>
   rw[q]at hx;rw[q']at hy;have h1:=ZH hx;have h2:=ZH hy;rw[<-h1,<-h2];exact hab
theorem tJ(mask:Nat)(owner:Array (Option Nat)):(bc mask owner).length=(Z4 (mask+1)).countP (fE owner):=by
 unfold bc;generalize Z4 (mask+1)=l
 induction l with
 |nil=>rfl
 |cons j l ih=>
  rw[Xe,List.countP_cons];unfold fE at *
  cases q:owner.getD j none with
  |none=>simp only[UO,Option.isSome_none,Zw,if_false];exact ih
  |some a=>simp only[UP,Up,XR,Zg];rw[ih]
theorem pW{t:ZX}{hashes:Array Int}{wanted:Nat}(hw:sizeAbove wanted-1=31)(hn:hashes.size<=31):
  ∃t' order,t.relaid hashes wanted=some (t',order)/\t'.place.size=hashes.size/\order.size=hashes.size/\t'.mask=31/\t'.led=t.led/\t'.plain=t.plain/\
   (∀i,i<hashes.size->order.getD i 0<hashes.size)/\(∀a,a<hashes.size->∃i,i<hashes.size/\order.getD i 0=a)/\(∀i k,i<hashes.size->k<hashes.size->order.getD i 0=order.getD k 0->i=k)/\TOk t' (fun i=>hashes.getD (order.getD i 0) 0):=by
 obtain⟨owner,e,L⟩:=tG (mask:=31) (.inr rfl) hashes hn;have hlen:(bc 31 owner).length=hashes.size:=by rw[tJ,L.cnt]
 have hso:=W2.mp (tZ 31 owner);have el:∀i (hi:i<hashes.size),((bc 31 owner)[i]'(by lia)).1<32/\owner.getD ((bc 31 owner)[i]'(by lia)).1 none=some ((bc 31 owner)[i]'(by lia)).2:=by
  intro i hi;exact mq.mp (YC (by lia))
 have gp:∀i (hi:i<hashes.size),(((bc 31 owner).map (·.1)).toArray).getD i 0=((bc 31 owner)[i]'(by lia)).1:=by
  intro i hi;rw[Zc,Yy,Zn,Z2 (by lia)];rfl
 have go:∀i (hi:i<hashes.size),(((bc 31 owner).map (·.2)).toArray).getD i 0=((bc 31 owner)[i]'(by lia)).2:=by
  intro i hi;rw[Zc,Yy,Zn,Z2 (by lia)];rfl
 have inj:∀i k (hi:i<hashes.size) (hk:k<hashes.size),((bc 31 owner)[i]'(by lia)).2=((bc 31 owner)[k]'(by lia)).2->i=k:=by
  intro i k hi hk q;have e1:=(el i hi).2;have e2:=(el k hk).2;rw[q]at e1;have same:=L.inj _ _ _ e1 e2;rcases Nat.lt_trichotomy i k with c|c|c
  ·have:=hso i k (by lia) (by lia) c;lia
  ·exact c
  ·have:=hso k i (by lia) (by lia) c;lia
 refine⟨{mask:=31,place:=((bc 31 owner).map (·.1)).toArray,dummies:=#[],finger:=t.finger,led:=t.led,moves:=t.movedTo 31,plain:=t.plain},((bc 31 owner).map (·.2)).toArray,?_,?_,?_,rfl,rfl,rfl,?_,?_,?_,?_⟩
 ·unfold SetTable.relaid laid;rw[hw,e]
  rfl
 ·simp[hlen]
 ·simp[hlen]
 ·intro i hi;rw[go i hi];exact (L.own _ _ (el i hi).2).1
 ·intro a ha;obtain⟨j,hj⟩:=L.all a ha;have hm:(j,a)∈bc 31 owner:=mq.mpr ⟨by have:=(L.own j a hj).2;lia,hj⟩
  obtain⟨i,hi,q⟩:=Yv hm;exact⟨i,by lia,by rw[go i (by lia),q]⟩
 ·intro i k hi hk q;rw[go i hi,go k hk]at q;exact inj i k hi hk q
 ·have psz:(((bc 31 owner).map (·.1)).toArray).size=hashes.size:=by simp[hlen]
  have occ:∀j,j<=31->¬gh owner j->∃i,i<hashes.size/\(((bc 31 owner).map (·.1)).toArray).getD i 0=j:=by
   intro j hj nf;have s1:j<owner.size:=by rw[L.size];lia
   cases q:owner.getD j none with
   |none=>exact absurd ((iG s1).mpr (by unfold fE;rw[q];rfl)) nf
   |some a=>
    obtain⟨i,hi,q'⟩:=Yv (mq.mpr ⟨by lia,q⟩:(j,a)∈bc 31 owner)
    exact⟨i,by lia,by rw[gp i (by lia),q']⟩
  refine⟨rfl,?_,?_,.inr rfl,?_,?_⟩
  ·intro i k h1 h2;have h2':k<hashes.size:=by rw[<-psz];exact h2
   show (((bc 31 owner).map (·.1)).toArray).getD i 0<(((bc 31 owner).map (·.1)).toArray).getD k 0;rw[gp i (by lia),gp k h2']
   exact hso i k (by lia) (by lia) h1
  ·intro i hi;have hi':i<hashes.size:=by rw[<-psz];exact hi
   show (((bc 31 owner).map (·.1)).toArray).getD i 0<=31;rw[gp i hi']
   have:=(el i hi').1
   lia
  ·show (((bc 31 owner).map (·.1)).toArray).size<=31;rw[psz];exact hn
  ·intro i hi;have hi':i<hashes.size:=by rw[<-psz];exact hi
   obtain⟨kk,q1,q2⟩:=L.rc _ _ (el i hi').2;refine⟨kk,?_,?_⟩
   ·show (pt 31 (hashes.getD ((((bc 31 owner).map (·.2)).toArray).getD i 0) 0) kk).j=(((bc 31 owner).map (·.1)).toArray).getD i 0;rw[go i hi',gp i hi'];exact q1
   ·intro k' hk'
    have:=q2 k' hk'
    unfold Occ;show ∃i',i'<(((bc 31 owner).map (·.1)).toArray).size/\(((bc 31 owner).map (·.1)).toArray).getD i' 0=(pt 31 (hashes.getD ((((bc 31 owner).map (·.2)).toArray).getD i 0) 0) k').j;rw[psz,go i hi'];exact occ _ (by have:=nC (mask:=31) (hashes.getD ((bc 31 owner)[i]'(by lia)).2 0) k';lia) this
end FS
end
section
namespace FS
open PySem PySem.SetTable
section
variable{prog:Zv}{w:Zl}{A:ZK}{E:Value->Shared->Prop}{s:Shared}
theorem lN{ks:List Int}{vs:List Value}(h:ItemsAre (ZP prog w) ks vs):∀v∈vs,∃i t,v=.int i t:=by
 induction h with
 |nil=>intro v hv;simp at hv
 | @cons k v' ks vs h1 _ ih=>
  intro v hv;rcases Zz.mp hv with rfl|hv
  ·obtain⟨t,e⟩:=Value.isInt_shape (k:=k) (v:=v) h1;exact⟨k,t,e⟩
  ·exact ih v hv
theorem jy{ks:List Int}{a:Addr}{Q:Bool->Shared->Prop}(hk:Yw (ZP prog w) s.heap ks a)(h:Q false s):Zq (model prog w) A (ofAClassStatement 8 (.ref a)) Q E s:=by
 have hT:=hk.typeIs;obtain⟨o,items,n,ho,_,hd,hi⟩:=hk;unfold ofAClassStatement;refine Z1 (WQ hT ?_);show Zq _ _ ((if ("tuple"=="tuple")=true then pure true else isSubtype (.type "tuple") (.type "tuple"))>>=_) _ _ s
 rw[if_pos (by decide)]
 refine Z1 (Z7 ?_);simp only[YG,Zw,if_false];refine Z1 (XV ho hd ?_);simp only;refine Z1 ?_;show Zq _ _ (forIn items _ _) _ _ s;rw[<-Wx];refine Vr _ (fun af r s'=>r.1=none/\s'=s/\∀v∈af,∃i t,v=Value.int i t) _ ?_ ?_ _ _ ⟨rfl,rfl,lN hi⟩
 ·rintro v af r s' ⟨hr,rfl,EE⟩;obtain⟨i,t,rfl⟩:=EE v Za;have e:ofAClassStatement 7 (.int i t)=pure false:=by unfold ofAClassStatement;rfl
  refine Z1 (VX e ?_);simp only[Zw,if_false];exact Z7 ⟨rfl,rfl,fun u hu'=>EE u (Zo _ hu')⟩
 ·rintro⟨r1,r2⟩ s' ⟨hr,rfl,_⟩;simp only at hr;subst hr;exact Z7 h
theorem tI{ks:List Int}{a:Addr}{stored:List Value}{Q:Bool->Shared->Prop}(hk:Yw (ZP prog w) s.heap ks a)
  (EA:∀y∈stored,∃b ks',y=.ref b/\Yw (ZP prog w) s.heap ks' b)(h:Q false s):Zq (model prog w) A (searchCouldBeSeen (.ref a) stored) Q E s:=by
 unfold searchCouldBeSeen;refine Z1 ?_;refine Vr _ (fun af r s'=>r.1=none/\s'=s/\∀y∈af,∃b ks',y=.ref b/\Yw (ZP prog w) s.heap ks' b) _ ?_ ?_ _ _ ⟨rfl,rfl,EA⟩
 ·rintro v af r s' ⟨hr,rfl,EE⟩;obtain⟨b,ks',rfl,hb⟩:=EE v Za;have hall':∀y∈af,∃b ks',y=Value.ref b/\Yw (ZP prog w) s'.heap ks' b:=fun u hu'=>EE u (Zo _ hu');dsimp only
  split
  ·exact Z7 ⟨rfl,rfl,hall'⟩
  ·refine Z1 (VJ hk ?_);simp only[YG,Zw,if_false];refine Z1 (VJ hb ?_);simp only[YG,Zw,if_false];refine Z1 (jy hk ?_);simp only[Zw,if_false];refine Z1 (jy hb ?_);simp only[Zw,if_false];exact Z7 ⟨rfl,rfl,hall'⟩
 ·rintro⟨r1,r2⟩ s' ⟨hr,rfl,_⟩;simp only at hr;subst hr;exact Z7 h
theorem lC{ks:List Int}{a:Addr}{Q:Bool->Shared->Prop}(hk:Yw (ZP prog w) s.heap ks a)(h:Q true s):Zq (model prog w) A (hashByValue 8 (.ref a)) Q E s:=by
 have hT:=hk.typeIs;obtain⟨o,items,n,ho,_,hd,hi⟩:=hk;unfold hashByValue;refine Z1 (Xr hT F.slot_tuple_hash.lookup ?_);refine Z1 (XV ho hd ?_);refine Z1 ?_;show Zq _ _ (forIn items _ _) _ _ s;rw[<-Wx];refine Vr _ (fun af r s'=>r.1=none/\s'=s/\∀v∈af,∃i t,v=Value.int i t) _ ?_ ?_ _ _ ⟨rfl,rfl,lN hi⟩
 ·rintro v af r s' ⟨hr,rfl,EE⟩;obtain⟨i,t,rfl⟩:=EE v Za;have e:hashByValue 7 (.int i t)=pure true:=by unfold hashByValue;rfl
  refine Z1 (VX e ?_);simp only[YG,Zw,if_false];exact Z7 ⟨rfl,rfl,fun u hu'=>EE u (Zo _ hu')⟩
 ·rintro⟨r1,r2⟩ s' ⟨hr,rfl,_⟩;simp only at hr;subst hr;exact Z7 h
noncomputable abbrev aX(prog:Zv)(w:Zl)(k:List Int):Int:=tupleKeyHash (ZP prog w) k
noncomputable def b9(es:Array (Int×Value))(i:Nat):Int:=(es[i]?.map (·.1)).getD 0
noncomputable def Ents(prog:Zv)(w:Zl)(h:ZF)(es:Array (Int×Value)):Prop:=∀(i:Nat) (e:Int×Value),es[i]?=some e->∃(k:List Int) (r:Addr),e=(aX prog w k,Value.ref r)/\Yw (ZP prog w) h k r
noncomputable def ie(prog:Zv)(w:Zl)(h:ZF)(es:Array (Int×Value))(k:List Int):Prop:=∃(i:Nat) (r:Addr),es[i]?=some (aX prog w k,.ref r)/\Yw (ZP prog w) h k r
structure ib(prog:Zv)(w:Zl)(h:ZF)(a:Addr)(o:Obj)(es:Array (Int×Value))(ep:Nat)(t:ZX):Prop where
 ho:h.get? a=some o
 ex:o.ExactSet
 hd:o.data=.set es ep t
 sz:t.place.size=es.size
 ok:TOk t (b9 es)
 en:Ents prog w h es
theorem ib.fits{h:ZF}{a:Addr}{o:Obj}{es:Array (Int×Value)}{ep:Nat}{t:ZX}(T:ib prog w h a o es ep t):t.fits es.size=true:=by
 unfold Uy WA
 have:=T.ok.sz
 rw[T.ok.dm,ZA,beq_iff_eq,decide_eq_true_eq];exact⟨T.sz,by simpa using this⟩
inductive vM(prog:Zv)(w:Zl)(h:ZF)(es:Array (Int×Value))(t:ZX)(k:List Int):SetFound->Prop
 |there (x:Option Nat):ie prog w h es k->vM prog w h es t k (.there x)
 |free (n:Nat):¬ie prog w h es k->¬Occ t (pt t.mask (aX prog w k) n).j->(∀n',n'<n->Occ t (pt t.mask (aX prog w k) n').j)->vM prog w h es t k (.free (pt t.mask (aX prog w k) n).j false)
theorem CP{α:Type}{b:Bool}{m:Sem Bool}{U T:Sem α}{Q:α->Shared->Prop}(hm:∀Q':Bool->Shared->Prop,Q' false s->Zq (model prog w) A m Q' E s)(hT:Zq (model prog w) A T Q E s):
  Zq (model prog w) A (if (!b)=true then (m>>=fun c=>if c=true then U else T) else T) Q E s:=by
 cases b with
 |true=>simpa using hT
 |false=>
  simp only[WY,XR];refine Z1 (hm _ ?_);simp only[Zw,if_false];exact hT
theorem xS{a r:Addr}{k:List Int}{o:Obj}{es:Array (Int×Value)}{ep:Nat}{t:ZX}(T:ib prog w s.heap a o es ep t)(hk:Yw (ZP prog w) s.heap k r)(hu:A.units<cLine)
  {Q:SetFound->Shared->Prop}(hQ:∀f,vM prog w s.heap es t k f->Q f s)(K:Nat)(hK:¬Occ t (pt t.mask (aX prog w k) K).j)(FG:K<=10*(t.mask+13)):
  ∀(fuel n:Nat) (Ff:Option TW),K-n<fuel->n<=K->Ff.getD (t.probeStart (aX prog w k))=pt t.mask (aX prog w k) n->
   (∀n',n'<n->∃i,i<t.place.size/\t.place.getD i 0=(pt t.mask (aX prog w k) n').j/\∀rr,es[i]?=some (aX prog w k,.ref rr)->¬Yw (ZP prog w) s.heap k rr)->
   Zq (model prog w) A (setSearchFrom a (.ref r) (aX prog w k) true fuel Ff) Q E s:=by
 intro fuel
 induction fuel with
 |zero=>intro n Ff h _ _ _;lia
 |succ f ih=>
  intro n Ff hf hn EA before;unfold setSearchFrom;refine Z1 (YF T.ho T.hd T.fits ?_);have gw:t.gaveWay=false:=by
   unfold SetTable.gaveWay;rcases T.ok.mm with e|e<;>rw[e]<;>rfl
  simp only[gw,Zw,if_false,EA];obtain⟨m,hm,M⟩:=lJ T.ok (aX prog w k) K hK FG hn;have hm':t.probe (b9 es) (aX prog w k) (pt t.mask (aX prog w k) n)=some m:=hm;have ext:∀n2,(∀n',n<=n'->n'<n2->∃i,i<t.place.size/\t.place.getD i 0=(pt t.mask (aX prog w k) n').j/\b9 es i≠aX prog w k)->
    ∀n',n'<n2->∃i,i<t.place.size/\t.place.getD i 0=(pt t.mask (aX prog w k) n').j/\∀rr,es[i]?=some (aX prog w k,.ref rr)->¬Yw (ZP prog w) s.heap k rr:=by
   intro n2 q n' hn';by_cases c:n'<n
   ·exact before n' c
   ·obtain⟨i,h1,h2,h3⟩:=q n' (by lia) hn'
    refine⟨i,h1,h2,fun rr e _=>h3 ?_⟩;unfold b9;rw[e];rfl
  split
  case h_2=>
   rename_i heq;exact (heq m hm).elim
  rename_i met heq;have em:met=m:=ZH (heq.symm.trans hm);subst em;clear heq;cases M with
  |free n2 h1 h2 h3=>
   refine Z7 (hQ _ (.free n2 ?_ h2 ?_))
   ·rintro⟨i,rr,e1,e2⟩;have hi:i<t.place.size:=by
     rw[T.sz]
     have:=YQ.mp e1
     exact this.1
    have eh:b9 es i=aX prog w k:=by unfold b9;rw[e1];rfl
    obtain⟨kk,q1,q2⟩:=T.ok.rc i hi;rw[eh]at q1 q2;by_cases c:kk<n2
    ·obtain⟨i',hi',p',nk⟩:=ext n2 h3 kk c;have same:i'=i:=by
      rcases Nat.lt_trichotomy i' i with d|d|d
      ·have:=T.ok.ri i' i d hi;lia
      ·exact d
      ·have:=T.ok.ri i i' d hi';lia
     subst same;exact nk rr e1 e2
    ·by_cases c2:kk=n2
     ·subst c2;exact h2 ⟨i,hi,q1.symm⟩
     ·exact h2 (q2 n2 (by lia))
   ·intro n' hn';obtain⟨i,h1,h2,_⟩:=ext n2 h3 n' hn';exact⟨i,h1,h2⟩
  |cand n2 i h1 h2 h3 h4 h5=>
   have hi:i<es.size:=by rw[<-T.sz];exact h2
   obtain⟨k',r',e1,e2⟩:=T.en i _ (Zb hi);have e1':es[i]?=some (aX prog w k',.ref r'):=by rw[Zb hi,e1]
   have hkk:aX prog w k'=aX prog w k:=by
    have:b9 es i=aX prog w k':=by unfold b9;rw[e1'];rfl
    rw[<-this];exact h4
   have hslot:=pR T.ok.ri h2 h3;simp only;refine CP (fun Q' hq=>tI hk ?_ hq) ?_
   ·intro y hy;obtain⟨e,he,rfl⟩:=Y9.mp hy;rw[Array.toList_filter]at he;have hm:=(ZI.mp he).1;obtain⟨ix,hix,q⟩:=Yv hm;have q':es[ix]?=some e:=by
     rw[<-Y4,Z2 hix,q]
    obtain⟨kx,rx,ex,hx⟩:=T.en ix e q';exact⟨rx,kx,by rw[ex],hx⟩
   ·rw[e1'];refine Z1 (Yj (wpAny_eqBool_tuple hu e2 hk ?_));refine Z1 (YF T.ho T.hd T.fits ?_);simp only;by_cases ce:k'=k
    ·subst ce;simp only[decide_true,Wz,XR];exact Z7 (hQ _ (.there none ⟨i,r',e1',e2⟩))
    ·rw[YJ ce];simp only[Wo,Zw,if_false];have sm:t.sameMemory t.moves t.mask=some true:=by unfold SC;simp
     rw[sm];simp only[XR,hslot,e1'];refine Z1 (wpAny_isSame_ref_self (Z1 (Z7 ?_)));simp only[XR];have hnK:n2≠K:=fun e=>hK (by rw[<-e,<-h3];exact⟨i,h2,rfl⟩)
     have G8:n2<K:=by
      rcases Nat.lt_trichotomy n2 K with c|c|c
      ·exact c
      ·exact absurd c hnK
      ·exfalso;obtain⟨i',q1,q2,_⟩:=h5 K hn c;exact hK ⟨i',q1,q2⟩
     refine ih (n2+1) (some _) (by lia) (by lia) rfl ?_
     intro n' hn';by_cases c:n'<n2
     ·exact ext n2 h5 n' c
     ·have:n'=n2:=by lia
      subst this;refine⟨i,h2,h3,fun rr er hrr=>?_⟩;rw[e1']at er;have er':r'=rr:=by
       have:=Y_ Vq (ZH er)
       simpa using this
      subst er';exact ce (e2.inj hrr)
theorem cY{h h':ZF}{a r:Addr}{o:Obj}{k:List Int}(hk:Yw (ZP prog w) h k r)(ho:h.get? a=some o)(hc:o.cls=.type "set")(hs:X9 a h h'):Yw (ZP prog w) h' k r:=by
 obtain⟨o',items,n,EB,hc',hd',hi⟩:=hk;have EJ:r≠a:=by
  rintro rfl;obtain rfl:o'=o:=ZH (EB.symm.trans ho);rw[hc]at hc';exact absurd hc' (by decide)
 exact⟨o',items,n,(hs.2 r EJ).trans EB,hc',hd',hi⟩
theorem yM(a:Addr)(wanted:Nat):setRelay a wanted=(do
  let (es,_,t) <-setState a
  if SetTable.sizeAbove wanted>sizeLine then unsupported "set:memory"
  let (es,t) <-(do
   let some (t,order):=t.relaid (es.map (·.1)) wanted|unsupported "internal:set-table-without-room"
   let Es:=order.filterMap (es[·]?)
   if Es.size != es.size then unsupported "internal:set-table-lost-an-element"
   pure (Es,t))
  storeSet a es t):=rfl
theorem i8{h:ZF}{a:Addr}{o:Obj}{es:Array (Int×Value)}{ep:Nat}{t:ZX}(ho:h.get? a=some o)(hd:o.data=.set es ep t)(Es:Array (Int×Value))(t':ZX):
  (h.update a (Wg Es t')).get? a=some {o with data:=.set Es (ep+1) t'}:=by
 have:=Yi (Wg Es t') ho (by rw[putSet_of Es t' hd];rfl)
 rw[putSet_of Es t' hd]at this;exact this
theorem iU{es:Array (Int×Value)}{order:Array Nat}(hs:order.size=es.size)(Eu:∀i,i<es.size->order.getD i 0<es.size):
  (order.filterMap (es[·]?)).size=es.size/\∀(i:Nat),i<es.size->(order.filterMap (es[·]?))[i]?=es[order.getD i 0]?:=by
 have key:∀(l:List Nat),(∀x∈l,x<es.size)->(l.filterMap (es[·]?)).length=l.length/\∀i:Nat,i<l.length->(l.filterMap (es[·]?))[i]?=es[l.getD i 0]?:=by
  intro l
  induction l with
  |nil=>intro _;exact⟨rfl,fun i h=>absurd h (by simp)⟩
  |cons x l ih=>
   intro hx;have h0:es[x]?=some (es[x]'(hx x Za)):=Zb _;obtain⟨i1,i2⟩:=ih fun y hy=>hx y (Zo _ hy);rw[Xe,h0];refine⟨by simp[i1],fun i hi=>?_⟩
   cases i with
   |zero=>simp[h0]
   |succ i=>simpa using i2 i (by simpa using hi)
 have hl:=key order.toList (by
  intro x hx;obtain⟨i,hi,q⟩:=Yv hx;rw[ZG]at hi
  have:=Eu i (by lia)
  rw[Zc,Zb hi]at this;rw[<-q];simpa using this)
 have e:(order.filterMap (es[·]?)).toList=order.toList.filterMap (es[·]?):=by simp
 refine⟨by rw[<-ZG,e,hl.1,ZG,hs],fun i hi=>?_⟩
 rw[<-Y4,e,hl.2 i (by rw[ZG];lia)]
 congr 1;rw[Z0,Y4,Zc]
theorem Ax{a:Addr}{o:Obj}{es:Array (Int×Value)}{ep:Nat}{t:ZX}(T:ib prog w s.heap a o es ep t){wanted:Nat}(hw:sizeAbove wanted=32)(hn:es.size<=31){Q:Unit->Shared->Prop}
  (hQ:∀h' o' Es ep' t',X9 a s.heap h'->ib prog w h' a o' Es ep' t'->t'.mask=31->Es.size=es.size->(∀e:Int×Value,(∃i:Nat,Es[i]?=some e)↔∃i:Nat,es[i]?=some e)->Q () {s with heap:=h'}):
  Zq (model prog w) A (setRelay a wanted) Q E s:=by
 obtain⟨t',order,e1,p1,p2,p3,p4,p5,p6,p7,p8,p9⟩:=pW (t:=t) (hashes:=es.map (·.1)) (wanted:=wanted) (by rw[hw]) (by rw[WZ];exact hn)
 rw[WZ]at p1 p2 p6 p7 p8;obtain⟨fs,fg⟩:=iU p2 p6;rw[yM];refine Z1 (YF T.ho T.hd T.fits ?_);simp only;have hz:¬sizeAbove wanted>sizeLine:=by rw[hw,XU];lia
 rw[if_neg hz];refine Z1 ?_;rw[e1];simp only;have EJ:((order.filterMap (es[·]?)).size != es.size)=false:=by rw[fs];simp
 rw[if_neg (by rw[EJ];exact Zm)]
 refine Z7 ?_;have hz2:(order.filterMap (es[·]?)).size<=sizeLine:=by rw[fs,XU];lia
 refine Wm T.ho T.hd ?_ hz2;have sb:=W5 s.heap a (Wg (order.filterMap (es[·]?)) t');refine hQ _ _ _ _ _ sb ⟨i8 T.ho T.hd _ _,T.ex,rfl,by rw[p1,fs],?_,?_⟩ p3 fs ?_
 ·have same:∀i,i<t'.place.size->b9 (order.filterMap (es[·]?)) i=(es.map (·.1)).getD (order.getD i 0) 0:=by
   intro i hi;unfold b9;rw[fg i (by lia)]
   generalize order.getD i 0=z;rw[Zc,Uo]
  refine⟨p9.dm,p9.ri,p9.le,p9.mm,p9.sz,fun i hi=>?_⟩;rw[same i hi];exact p9.rc i hi
 ·intro i e q;have hi:i<es.size:=by
   have h0:i<(order.filterMap (es[·]?)).size:=(YQ.mp q).1;lia
  have q:(order.filterMap (es[·]?))[i]?=some e:=q;rw[fg i hi]at q;obtain⟨k,r,e1,e2⟩:=T.en _ e q;exact⟨k,r,e1,cY e2 T.ho T.ex.1 sb⟩
 ·intro e;constructor
  ·rintro⟨i,q⟩;have hi:i<es.size:=by
    have h0:i<(order.filterMap (es[·]?)).size:=(YQ.mp q).1;lia
   have q:(order.filterMap (es[·]?))[i]?=some e:=q;rw[fg i hi]at q;exact⟨_,q⟩
  ·rintro⟨i,q⟩;have hi:i<es.size:=(YQ.mp q).1;obtain⟨i',h1,h2⟩:=p7 i hi;exact⟨i',by rw[fg i' h1,h2];exact q⟩
theorem j_(es:Array (Int×Value))(p:Nat)(hp:p<=es.size)(h:Int)(x:Value):b9 (insertAt es p (h,x))=vo (b9 es) p h:=by
 funext i
 unfold b9 vo;rw[dM es p (h,x) hp i]
 (repeat' split)<;>rfl
theorem wq{t:ZX}{hs:Nat->Int}(ok:TOk t hs):t.tooFull=decide (t.place.size*5 ≥ t.mask*3):=by
 unfold Xb WA;rw[ok.dm];simp
theorem o9{t:ZX}{hs:Nat->Int}(ok:TOk t hs)(b:Bool):TOk {t with plain:=b} hs:=⟨ok.dm,ok.ri,ok.le,ok.mm,ok.sz,ok.rc⟩
theorem DM{a r:Addr}{k:List Int}{o:Obj}{es:Array (Int×Value)}{ep:Nat}{t:ZX}(T:ib prog w s.heap a o es ep t)(h7:t.mask=7->es.size<=4)(h12:es.size<=14)(hk:Yw (ZP prog w) s.heap k r)(hu:A.units<cLine)
  {Q:Bool->Shared->Prop}(Fp:ie prog w s.heap es k->Q false s)
  (EM:¬ie prog w s.heap es k->∀h' o' Es ep' t',X9 a s.heap h'->ib prog w h' a o' Es ep' t'->(t'.mask=7->Es.size<=4)->Es.size=es.size+1->
   (∀k',ie prog w h' Es k'↔ie prog w s.heap es k'\/k'=k)->Q true {s with heap:=h'}):
  Zq (model prog w) A (setAddHashed a (.ref r) (aX prog w k)) Q E s:=by
 unfold setAddHashed setAddHashedIn;refine Yj (Z1 (YF T.ho T.hd T.fits ?_));simp only;have nb:byScan (.ref r) es=false:=rfl;rw[if_neg (by rw[nb];exact Zm)]
 obtain⟨K,FG,hK⟩:=T.ok.free (aX prog w k);unfold setSearch;have hmask:t.mask<=31:=by rcases T.ok.mm with e|e<;>lia
 refine Z1 (xS T hk hu ?_ K hK FG 100000 0 none (by lia) (Nat.zero_le _) rfl (fun _ h=>absurd h (by lia)))
 intro f hf;cases hf with
 |there x h=>exact Z7 (Fp h)
 |free n h1 h2 h3=>
  have hj:=nC (mask:=t.mask) (aX prog w k) n;have hsz:t.place.size+1<=t.mask:=by
   rw[T.sz];rcases T.ok.mm with e|e
   ·have:=h7 e;lia
   ·lia
  have ok':=T.ok.put (h:=aX prog w k) h2 h3 (by lia) hsz
  have pp:=kg T.ok (pt t.mask (aX prog w k) n).j;have p2:(t.put (pt t.mask (aX prog w k) n).j).2=below t.place (pt t.mask (aX prog w k) n).j:=rfl;have bs:=fI T.ok.ri (pt t.mask (aX prog w k) n).j;simp only;refine Z1 (YF T.ho T.hd T.fits ?_);simp only;generalize (pt t.mask (aX prog w k) n).j=j at *
  have hp:below t.place j<=es.size:=by rw[<-T.sz];exact bs.1
  have tail:∀b:Bool,Zq (model prog w) A (do
    storeSet a (insertAt es (t.put j).2 (aX prog w k,Value.ref r)) { (t.put j).1 with plain:=b}
    if (!false&&Xb { (t.put j).1 with plain:=b})=true then do
     setRelay a (VY (es.size+1))
     pure true
    else pure true) Q E s:=by
   intro b;have isz:=dR es (below t.place j) (aX prog w k,Value.ref r) hp;have hz:(insertAt es (t.put j).2 (aX prog w k,Value.ref r)).size<=sizeLine:=by rw[p2,isz,XU];lia
   refine Z1 (Wm T.ho T.hd ?_ hz);have sb:=W5 s.heap a (Wg (insertAt es (t.put j).2 (aX prog w k,Value.ref r)) { (t.put j).1 with plain:=b})
   have T1:ib prog w (s.heap.update a (Wg (insertAt es (t.put j).2 (aX prog w k,Value.ref r)) { (t.put j).1 with plain:=b})) a {o with data:=.set (insertAt es (t.put j).2 (aX prog w k,Value.ref r)) (ep+1) { (t.put j).1 with plain:=b}} (insertAt es (t.put j).2 (aX prog w k,Value.ref r)) (ep+1) { (t.put j).1 with plain:=b}:=by
    refine⟨i8 T.ho T.hd _ _,T.ex,rfl,?_,?_,?_⟩
    ·show (t.put j).1.place.size=_;rw[p2,isz,pp];show (insertAt t.place (below t.place j) j).size=_;rw[dR _ _ _ bs.1,T.sz]
    ·rw[p2,j_ es _ hp];exact o9 ok' b
    ·intro i e q;rw[p2,dM es _ _ hp i]at q;by_cases c1:i<below t.place j
     ·rw[if_pos c1]at q;obtain⟨k',r',e1,e2⟩:=T.en i e q;exact⟨k',r',e1,cY e2 T.ho T.ex.1 sb⟩
     ·by_cases c2:i=below t.place j
      ·rw[if_neg c1,if_pos c2]at q;exact⟨k,r,(ZH q).symm,cY hk T.ho T.ex.1 sb⟩
      ·rw[if_neg c1,if_neg c2]at q;obtain⟨k',r',e1,e2⟩:=T.en _ e q;exact⟨k',r',e1,cY e2 T.ho T.ex.1 sb⟩
   have keys:∀h':ZF,(∀k' r',Yw (ZP prog w) s.heap k' r'->Yw (ZP prog w) h' k' r')->∀Es:Array (Int×Value),(∀e:Int×Value,(∃i:Nat,Es[i]?=some e)↔∃i:Nat,(insertAt es (t.put j).2 (aX prog w k,Value.ref r))[i]?=some e)->
     ∀k',ie prog w h' Es k'↔ie prog w s.heap es k'\/k'=k:=by
    intro h' up Es hes k';have mem:∀e:Int×Value,(∃i:Nat,(insertAt es (t.put j).2 (aX prog w k,Value.ref r))[i]?=some e)↔(∃i:Nat,es[i]?=some e)\/e=(aX prog w k,Value.ref r):=by
     intro e;rw[p2];constructor
     ·rintro⟨i,q⟩;rw[dM es _ _ hp i]at q;by_cases c1:i<below t.place j
      ·rw[if_pos c1]at q;exact .inl ⟨i,q⟩
      ·by_cases c2:i=below t.place j
       ·rw[if_neg c1,if_pos c2]at q;exact .inr (ZH q).symm
       ·rw[if_neg c1,if_neg c2]at q;exact .inl ⟨_,q⟩
     ·rintro (⟨i,q⟩|rfl)
      ·by_cases c1:i<below t.place j
       ·exact⟨i,by rw[dM es _ _ hp i,if_pos c1];exact q⟩
       ·exact⟨i+1,by rw[dM es _ _ hp,if_neg (by lia),if_neg (by lia)];exact q⟩
      ·exact⟨below t.place j,by rw[dM es _ _ hp,if_neg (by lia),if_pos rfl]⟩
    constructor
    ·rintro⟨i,r',q,hk'⟩;rcases (mem _).mp ((hes _).mp ⟨i,q⟩) with ⟨i',q'⟩|q'
     ·obtain⟨k2,r2,e1,e2⟩:=T.en i' _ q';have er:r'=r2:=by have:=Y_ Vq e1;simpa using this
      subst er
      have:k2=k':=(up _ _ e2).inj hk'
      subst this;exact .inl ⟨i',r',q',e2⟩
     ·have er:r'=r:=by have:=Y_ Vq q';simpa using this
      subst er;exact .inr (hk'.inj (up _ _ hk))
    ·rintro (⟨i,r',q,hk'⟩|rfl)
     ·obtain⟨i',q'⟩:=(hes _).mpr ((mem _).mpr (.inl ⟨i,q⟩));exact⟨i',r',q',up _ _ hk'⟩
     ·obtain⟨i',q'⟩:=(hes _).mpr ((mem _).mpr (.inr rfl));exact⟨i',r,q',up _ _ hk⟩
   have full:Xb { (t.put j).1 with plain:=b}=decide ((es.size+1)*5 ≥ t.mask*3):=by
    rw[wq (o9 ok' b)];show decide ((t.put j).1.place.size*5 ≥ (t.put j).1.mask*3)=_;rw[pp];show decide ((insertAt t.place (below t.place j) j).size*5 ≥ t.mask*3)=_;rw[dR _ _ _ bs.1,T.sz]
   rw[full];by_cases cf:(es.size+1)*5 ≥ t.mask*3
   ·rw[Zt cf];simp only[WY,Bool.and_self,XR];have h31:t.mask=7:=by rcases T.ok.mm with e|e<;>lia
    have h4:es.size=4:=by have:=h7 h31;lia
    refine Z1 (Ax T1 (by rw[h4];decide) (by rw[p2,isz];lia) ?_)
    intro h' o' Es ep' t' sb' T' m' sz' mem';refine Z7 ?_;refine EM h1 h' o' Es ep' t' (sb.trans sb') T' (fun e=>by lia) (by rw[sz',p2,isz]) ?_
    refine keys h' (fun k' r' hq=>?_) Es mem';exact cY (cY hq T.ho T.ex.1 sb) T1.ho T1.ex.1 sb'
   ·rw[YJ cf];simp only[WY,Wo,Zw,if_false];refine Z7 ?_;refine EM h1 _ _ _ _ _ sb T1 (fun e=>?_) (by rw[p2,isz]) ?_
    ·have e':t.mask=7:=by
      have:(t.put j).1.mask=t.mask:=by rw[pp]
      rw[<-this];exact e
     rw[p2,isz];lia
    ·exact keys _ (fun k' r' hq=>cY hq T.ho T.ex.1 sb) _ (fun e=>Iff.rfl)
  have plainEq:(t.put j).1={ (t.put j).1 with plain:=(t.put j).1.plain}:=rfl
  cases EC:(t.put j).1.plain with
  |true=>
   simp only[XR];refine Z1 (lC hk ?_);simp only[XR]
   have:=tail true
   have e:({ (t.put j).1 with plain:=true}:ZX)=(t.put j).1:=by rw[<-EC]
   rw[e]at this;exact this
  |false=>
   simp only[Zw,if_false];refine Z1 (Z7 ?_);simp only[XR]
   have:=tail false
   have e:({ (t.put j).1 with plain:=false}:ZX)=(t.put j).1:=by rw[<-EC]
   rw[e]at this;exact this
end
end FS
end
section
namespace FS
open PySem PySem.SetTable
noncomputable def eK(key:Nat->List Int):Nat->Nat
 |0=>0
 |i+1=>eK key i+if (Z4 i).any fun j=>decide (key j=key i) then 0 else 1
theorem j9(key:Nat->List Int):∀i,eK key i<=i
 |0=>Nat.le_refl _
 |i+1=>by
  have:=j9 key i
  unfold eK
  split<;>lia
theorem sv(key:Nat->List Int):∀i,eK key i<i↔∃a b,a<b/\b<i/\key a=key b
 |0=>⟨fun h=>absurd h (by unfold eK;lia),fun ⟨_,_,_,h,_⟩=>absurd h (by lia)⟩
 |i+1=>by
  have ih:=sv key i;have le:=j9 key i;unfold eK;constructor
  ·intro h;by_cases c:((Z4 i).any fun j=>decide (key j=key i))=true
   ·obtain⟨j,hj,e⟩:=YA.mp c;exact⟨j,i,Zy.mp hj,by lia,Zx e⟩
   ·rw[if_neg c]at h;obtain⟨a,b,h1,h2,h3⟩:=ih.mp (by lia)
    exact⟨a,b,h1,by lia,h3⟩
  ·rintro⟨a,b,h1,h2,h3⟩;by_cases e:b=i
   ·subst e;have c:((Z4 b).any fun j=>decide (key j=key b))=true:=YA.mpr ⟨a,Zy.mpr h1,Zt h3⟩;rw[if_pos c];lia
   ·have:=ih.mpr ⟨a,b,h1,by lia,h3⟩
    split<;>lia
section
variable{prog:Zv}{w:Zl}{A:ZK}{R:VT->Shared->Prop}{I:Addr}{fp wr:List Addr}{G:Array Wt->Array Wt->Prop}{n:Nat}{P:Nat->Value->Prop}{St:Nat->Shared->Prop}
noncomputable def Holds(prog:Zv)(w:Zl)(h:ZF)(S:Addr)(key:Nat->List Int)(i:Nat):Prop:=
 ∃o es ep t,ib prog w h S o es ep t/\(t.mask=7->es.size<=4)/\es.size=eK key i/\∀k',ie prog w h es k'↔∃j,j<i/\key j=k'
theorem vC{h h':ZF}{S:Addr}{key:Nat->List Int}{i:Nat}(H:Holds prog w h S key i)(k:∀b o,(b=S\/o.cls=.type "tuple")->h.get? b=some o->h'.get? b=some o):Holds prog w h' S key i:=by
 obtain⟨o,es,ep,t,T,h7,sz,ks⟩:=H;have up:∀k' r,Yw (ZP prog w) h k' r->Yw (ZP prog w) h' k' r:=by
  rintro k' r ⟨o,items,n,ho,hc,hd,hi⟩;exact⟨o,items,n,k r o (.inr hc) ho,hc,hd,hi⟩
 refine⟨o,es,ep,t,⟨k _ _ (.inl rfl) T.ho,T.ex,T.hd,T.sz,T.ok,fun i e q=>?_⟩,h7,sz,fun k'=>?_⟩
 ·obtain⟨k',r,e1,e2⟩:=T.en i e q;exact⟨k',r,e1,up _ _ e2⟩
 ·rw[<-ks k'];constructor
  ·rintro⟨i,r,q,e⟩;obtain⟨k2,r2,e1,e2⟩:=T.en i _ q;have er:r=r2:=by have:=Y_ Vq e1;simpa using this
   subst er
   have:k2=k':=(up _ _ e2).inj e
   subst this;exact⟨i,r,q,e2⟩
  ·rintro⟨i,r,q,e⟩;exact⟨i,r,q,up _ _ e⟩
theorem zd(W:WalksS prog w A.in1 I fp wr G n P St)(S:Addr)(EU:S∉fp)(hu:A.in1.units<cLine)(key:Nat->List Int)(rf:Nat->Addr)(FI:∀i v,P i v->v=.ref (rf i))(hn:n<=14)
  (hrf:∀i,i<n->rf i∉S::wr)(Gu:∀i s,St i s->∀b∈wr,∀o,s.heap.get? b=some o->o.cls≠.type "tuple"):
  ∀(k i:Nat) (s:Shared),n-i=k->i<=n->St i s->Holds prog w s.heap S key i->(∀j,j<n->Yw (ZP prog w) s.heap (key j) (rf j))->
   (∀s',T0 (S::wr) G s s'->Holds prog w s'.heap S key n->R (.ok (.ret .none)) s')->
   Xd (model prog w) A (.builtin "set.update.loop" ⟨[.ref S,.ref I],[]⟩) R s:=by
 have hSw:S∉wr:=fun h=>EU (W.sub _ h);have hsub:∀b∈wr,b∈S::wr:=fun b hb=>Zo _ hb;have keep:∀{s s':Shared} {i:Nat},T0 wr G s s'->(∀b∈wr,∀o,s.heap.get? b=some o->o.cls≠.type "tuple")->Holds prog w s.heap S key i->Holds prog w s'.heap S key i:=by
  intro s s' i hm hw H;refine vC H fun b o hb e=>hm.heap b o ?_ e;intro hbw;rcases hb with rfl|hc
  ·exact hSw hbw
  ·exact hw b hbw o e hc
 intro k
 induction k with
 |zero=>
  intro i s hk hi EA hS hkeys hR;have hin:i=n:=by lia
  subst hin;refine Yk YE ?_;rw[Yp Y6 _];show Zq _ A.in1 (pyNext (.ref I)>>=_) _ _ s;refine Z1 (W.done s _ _ EA fun s' hm=>?_);show Zq _ A.in1 (ret Value.none) _ _ s';exact Z7 (hR s' (hm.mono hsub) (keep hm (Gu _ _ EA) hS))
 |succ k ih=>
  intro i s hk hi EA hS hkeys hR;have Eu:i<n:=by lia
  refine Yk YE ?_;rw[Yp Y6 _];show Zq _ A.in1 (pyNext (.ref I)>>=_) _ _ s;refine Z1 (W.item i s _ _ Eu EA fun v s' hP hst' hm=>?_);obtain rfl:=FI i v hP;have hS':=keep hm (Gu _ _ EA) hS;have hkeys':∀j,j<n->Yw (ZP prog w) s'.heap (key j) (rf j):=by
   intro j hj;obtain⟨o,items,m,ho,r⟩:=hkeys j hj;exact⟨o,items,m,hm.heap _ o (fun z=>hrf j hj (Zo _ z)) ho,r⟩
  show Zq _ A.in1 (holding [Value.ref (rf i)] (setAdd S (.ref (rf i)))>>=_) _ _ s';refine Z1 (Yj ?_);unfold setAdd;refine Yj ?_;refine Z1 (wpAny_pyHash_tuple hu (hkeys' i Eu) ?_);obtain⟨o,es,ep,t,T,h7,sz,ks⟩:=hS';have next:∀(h':ZF),X9 S s'.heap h'->Holds prog w h' S key (i+1)->
    Zq (model prog w) A.in1 (again (.builtin "set.update.loop" ⟨[.ref S,.ref I],[]⟩)) (fun fin s₁=>match fin with| .done f=>R (.ok f) s₁| .again c=>c.quiet/\Xd (model prog w) A c R s₁) (fun e s₁=>R (.error e) s₁) {s' with heap:=h',toks:=s'.toks+((key i).length+1)}:=by
   intro h' hsb hH;refine Z7 ⟨Xi Y6 _,ih (i+1) _ (by lia) Eu (W.frame _ s' _ _ hst' (Nat.le_add_right _ _) fun b hb o e=>?_) hH ?_ (fun EX hm'' hS''=>?_)⟩
   ·rw[hsb.2 b (fun h:b=S=>EU (by rw[<-h];exact hb))];exact e
   ·intro j hj;exact cY (hkeys' j hj) T.ho T.ex.1 hsb
   ·refine hR EX (Moved.trans W.gtrans ((hm.mono hsub).then_heap (Nat.le_add_right _ _) fun b o hb e=>?_) hm'') hS'';rw[hsb.2 b (fun h:b=S=>hb (by rw[h];exact Za))];exact e
  have dl:=j9 key i;refine DM (s:={s' with toks:=s'.toks+((key i).length+1)}) T h7 (by lia) (hkeys' i Eu) hu (fun hin=>?_) (fun hnin h' o' Es ep' t' hsb T' h7' sz' ks'=>?_)
  ·refine next s'.heap (V8 _ _) ⟨o,es,ep,t,T,h7,?_,fun k'=>?_⟩
   ·have hin':=(ks _).mp hin;obtain⟨j,hj,e⟩:=hin';unfold eK;rw[if_pos (YA.mpr ⟨j,Zy.mpr hj,Zt e⟩),sz];rfl
   ·rw[ks];constructor
    ·rintro⟨j,hj,e⟩;exact⟨j,by lia,e⟩
    ·rintro⟨j,hj,e⟩;by_cases c:j=i
     ·subst c;subst e;exact (ks _).mp hin
     ·exact⟨j,by lia,e⟩
  ·refine next h' hsb ⟨o',Es,ep',t',T',h7',?_,fun k'=>?_⟩
   ·unfold eK
    have:¬(((Z4 i).any fun j=>decide (key j=key i))=true):=by
     intro c;obtain⟨j,hj,e⟩:=YA.mp c;exact hnin ((ks _).mpr ⟨j,Zy.mp hj,Zx e⟩)
    rw[if_neg this,sz',sz]
   ·rw[ks' k'];constructor
    ·rintro (h|rfl)
     ·obtain⟨j,hj,e⟩:=(ks _).mp h;exact⟨j,by lia,e⟩
     ·exact⟨i,by lia,rfl⟩
    ·rintro⟨j,hj,e⟩;by_cases c:j=i
     ·subst c;exact .inr e.symm
     ·exact .inl ((ks _).mpr ⟨j,by lia,e⟩)
end
section
variable{prog:Zv}{w:Zl}{A:ZK}{E:Value->Shared->Prop}{s:Shared}
theorem tL{h:ZF}{S:Addr}{led:Bool}(key:Nat->List Int)(ho:h.get? S=some {cls:=.type "set",dict:=none,data:=.set #[] 0 (.fresh 0 0 led)}):Holds prog w h S key 0:=by
 refine⟨_,#[],0,_,⟨ho,⟨rfl,rfl,rfl⟩,rfl,rfl,pY _ _ _ _,fun i e q=>by simp at q⟩,fun _=>Nat.zero_le _,rfl,fun k'=>?_⟩
 constructor
 ·rintro⟨i,r,q,_⟩;simp at q
 ·rintro⟨j,hj,_⟩;lia
set_option maxHeartbeats 3200000 in
theorem nc{l:Addr}{items:Array Value}{key:Nat->List Int}{rf:Nat->Addr}{Q:Value->Shared->Prop}
  (hh:A.handled=none)(hu:A.units+20<cLine)(hl:s.heap.IsList l items)(hn:items.size<=14)(hi:∀(i:Nat) v,items[i]?=some v->v=.ref (rf i))(hk:∀i,i<items.size->Yw (ZP prog w) s.heap (key i) (rf i))
  (h:∀(h':ZF) (tk:Nat),Holds prog w h' s.heap.objs.size key items.size->(∀b o,b<s.heap.objs.size->s.heap.get? b=some o->h'.get? b=some o)->Q (.ref s.heap.objs.size) {s with heap:=h',toks:=tk}):
  Zq (model prog w) A (call (.type "set") [.ref l]) Q E s:=by
 obtain⟨c,tl,hmro⟩:=F.called_set.mro;have hmade:=F.called_set.made;have hsub:=F.called_set.sub;refine Vh (VE ?_);show Zq _ _ (callAny (.type "set") _) _ _ _;refine Z7 ⟨V0 _ (by decide +kernel),Yk F.entry_type_call ?_⟩
 rw[Um (VM "set" [.ref l] []) rfl];have h1:=F.called_set.notType;have h2:=F.called_set.canCreate;have hct:=F.typeCall_set_1 (.ref l)
 repeat (any_goals (first|assumption|wp_step))
 refine X_ (code_set_new_1 (.ref l) (E:=E) (Q₁:=fun obj s₁=>∃led:Bool,obj=.ref s.heap.objs.size/\s₁={s with heap:=s.heap.push {cls:=.type "set",dict:=none,data:=.set #[] 0 (.fresh 0 0 led)}}) fun led=>⟨led,rfl,rfl⟩) fun r s₁ hr=>?_
 cases r with
 |error e=>exact hr
 |ok fl=>
  cases fl with
  |ret obj=>
   obtain⟨led,rfl,rfl⟩:=hr;have hS:(s.heap.push {cls:=.type "set",dict:=none,data:=.set #[] 0 (.fresh 0 0 led)}).get? s.heap.objs.size=some {cls:=.type "set",dict:=none,data:=.set #[] 0 (.fresh 0 0 led)}:=Zk _ rfl;have hT:Shared.TypeIs {s with heap:=s.heap.push {cls:=.type "set",dict:=none,data:=.set #[] 0 (.fresh 0 0 led)}} (.ref s.heap.objs.size) "set" :=⟨_,hS,rfl⟩
   have hli:=F.called_set.init.lookup;have hbi:=F.called_set.init.bind (.ref s.heap.objs.size)
   repeat (any_goals (first|assumption|wp_step))
   refine X_ (XW (R:=wants (fun r s₂=>r=.none/\∃h' tk,s₂={s with heap:=h',toks:=tk}/\
     Holds prog w h' s.heap.objs.size key items.size/\
     (∀b o,b<s.heap.objs.size->s.heap.get? b=some o->h'.get? b=some o)) E) F.called_set.init.plain F.entry_set_init (UH hT ?_)) fun r₂ s₂ hr₂=>?_
   ·obtain⟨ol,hol,hcl,nl,hdl⟩:=hl;obtain⟨ocls,odict,odata,oslots⟩:=ol;simp only at hcl hdl;subst hcl;subst hdl;have hol':(s.heap.push {cls:=.type "set",dict:=none,data:=.set #[] 0 (.fresh 0 0 led)}).get? l=some {cls:=.type "list",dict:=odict,data:=.seq items nl,slots:=oslots}:=Z8 _ hol;have hsls:=F.sub_list_set;have hslf:=F.sub_list_frozenset;have EJ:(Value.type "list"==Value.type "dict")=false:=by decide
    have ES:(s.heap.push {cls:=.type "set",dict:=none,data:=.set #[] 0 (.fresh 0 0 led)}).IsList l items:=⟨_,hol',rfl,nl,rfl⟩;unfold XC.«set.__init__» noKeywords WI;generalize hPI:pyIter=PI
    wp_walk
    subst hPI;refine Xn ES ?_;refine Z1 (VZ ?_);have hlS:l<s.heap.objs.size:=Z_ hol;have hh3:A.in1.in1.in1.handled=none:=by simp[hh]
    have hneI:l≠(s.heap.push {cls:=.type "set",dict:=none,data:=.set #[] 0 (.fresh 0 0 led)}).objs.size:=by
     rw[Ys];exact Nat.ne_of_lt (Nat.lt_succ_of_lt hlS)
    have EU:s.heap.objs.size∉[(s.heap.push {cls:=.type "set",dict:=none,data:=.set #[] 0 (.fresh 0 0 led)}).objs.size,l]:=by
     rw[Ys];simp only[Zz,Zj,Zr,or_false,W6];exact⟨Nat.ne_of_lt (Nat.lt_succ_self _),Nat.ne_of_gt hlS⟩
    have rlt:∀i,i<items.size->rf i<s.heap.objs.size:=fun i hi'=>by
     obtain⟨o,_,_,ho,_⟩:=hk i hi';exact Z_ ho
    refine zd ((T4 hh3 _ l hneI items).toS) s.heap.objs.size
     EU (by simp only[Around.in1_units];lia) key rf hi hn ?_ ?hW (items.size-0) 0 _ (by lia) (Nat.zero_le _)
     ⟨⟨_,Zk _ rfl,rfl,rfl⟩,(ES.push _)⟩ ?hS0 ?hK ?hR
    ·intro i hi'
     have:=rlt i hi'
     rw[Ys];simp only[Zz,Zr,or_false,W6];exact⟨Nat.ne_of_lt this,Nat.ne_of_lt (Nat.lt_succ_of_lt this)⟩
    case hS0=>
     exact tL (led:=led) key (Z8 _ hS)
    case hK=>
     intro j hj;obtain⟨o,C',m,ho,r⟩:=hk j hj;exact⟨o,C',m,Z8 _ (Z8 _ ho),r⟩
    case hW=>
     intro i s1 EA b hb o e;have hb':=Zj.mp hb;subst hb';obtain⟨⟨o',EB,hc',_⟩,_⟩:=EA;rw[EB]at e;cases e;rw[hc']
     decide
    case hR=>
     intro s' hm hS';obtain⟨h',g',d',tk',os'⟩:=s';have eg:g'=s.gens:=hm.gens;have ed:d'=s.drawn:=hm.drawn;have eo:os'=s.os:=hm.os;subst eg;subst ed;subst eo;show Zq _ _ _ _ _ _;refine Z7 ?_;show Zq _ _ (ret Value.none) _ _ _;refine Z7 ⟨rfl,h',tk',rfl,hS',fun b o hb e=>?_⟩;have FO:b≠s.heap.objs.size:=Nat.ne_of_lt hb;have hb2:b≠(s.heap.push {cls:=.type "set",dict:=none,data:=.set #[] 0 (.fresh 0 0 led)}).objs.size:=by
      rw[Ys];exact Nat.ne_of_lt (Nat.lt_succ_of_lt hb)
     exact hm.heap b o (by simp only[Zz,Zj,Zr,or_false,W6];exact⟨FO,hb2⟩) (Z8 _ (Z8 _ e))
   ·cases r₂ with
    |error e=>exact hr₂
    |ok fl₂=>
     cases fl₂ with
     |ret r=>
      obtain⟨rfl,h',tk,rfl,hS',hk'⟩:=hr₂
      repeat (any_goals (first|assumption|wp_step))
      exact h _ _ hS' hk'
     |_=>exact hr₂.elim
  |_=>exact hr.elim
end
end FS
end
section
namespace FS
open PySem
namespace F
theorem lri_no_len:typeLookup (.type "list_reverseiterator") "__len__" = pure none:=by rw[XG,YU];kernel_rfl
theorem lri_hint:typeLookup (.type "list_reverseiterator") "__length_hint__" = pure (some (.builtin "list_reverseiterator.__length_hint__")):=by rw[XG,YU];kernel_rfl
theorem sub_lri:isSubtype (.type "list_reverseiterator") (.type "list_reverseiterator")=pure true:=by rw[V1];kernel_rfl
theorem zip_no_len:typeLookup (.type "zip") "__len__" = pure none:=by rw[XG,YU];kernel_rfl
theorem zip_no_hint:typeLookup (.type "zip") "__length_hint__" = pure none:=by rw[XG,YU];kernel_rfl
end F
section
variable{prog:Zv}{w:Zl}{A:ZK}{s:Shared}{R:VT->Shared->Prop}
variable{I:Addr}{fp wr:List Addr}{G:Array Wt->Array Wt->Prop}{n:Nat}{P:Nat->Value->Prop}{St:Nat->Shared->Prop}
theorem yO{E:Value->Shared->Prop}{Q:Bool->Shared->Prop}(hT:s.TypeIs (.ref I) "list_reverseiterator")(h:Q false s):Zq (model prog w) A (Xz (.ref I)) Q E s:=by
 unfold Xz;refine Z1 (Xr hT F.lri_no_len ?_);show Zq _ A (specialOf (Value.ref I) (ZY "__length_hint__")>>=_) _ _ _;refine Z1 (Xr hT F.lri_hint ?_);have F1:splitId "list_reverseiterator.__length_hint__" = some ("list_reverseiterator","__length_hint__"):=by decide +kernel
 simp only[F1];refine Z1 (Wf hT F.sub_lri ?_);simp only[YG,Zw,if_false];exact Z7 h
theorem vB(W:WalksS prog w A.in1 I fp wr G n P St)(hT:∀i s,St i s->s.TypeIs (.ref I) "list_reverseiterator")(S:Addr)(res:Value)(c₀:Nat)(EA:St 0 s)(EU:S∉fp)(hI:I∈fp)
  (hS:s.heap.get? S=some {cls:=.type "list",data:=.seq #[] c₀})
  (hR:∀s' acc' c',T0 (S::wr) G s s'->s'.heap.get? S=some {cls:=.type "list",dict:=none,data:=.seq acc' c',slots:=#[]}->S6 P acc' n->R (.ok (.ret res)) s')(hn:n<=sizeLine:=by size_fits):
  Zq (model prog w) A.in1 (ZW (.ref S) (.ref I) res)
   (fun fin s'=>match fin with| .done f=>R (.ok f) s'| .again c'=>c'.quiet=true/\Xd (model prog w) A c' R s') (fun e s'=>R (.error e) s') s:=by
 have hSI:S≠I:=fun e=>EU (e ▸ hI);unfold ZW;refine Z1 (WQ (hT 0 _ EA) ?_);have h1:YH (.ref S) (.ref I)=false:=by simp[YH,hSI]
 have h2:(Value.type "list_reverseiterator"==Value.type "list")=false:=by decide
 have h3:(Value.type "list_reverseiterator"==Value.type "tuple")=false:=by decide
 simp only[h1,h2,h3,WB,Zw,if_false];refine Z1 (W.self 0 _ _ _ EA ?_);refine Z1 (Yj (yO (hT 0 _ EA) ?_));show Zq _ A.in1 (again (.builtin "list.extend.loop" ⟨[.ref S,.ref I,res],[]⟩)) _ _ _;refine Z7 ⟨Xi YD _,U0 W hn _ EU _ n 0 _ _ _ rfl (Nat.zero_le _) EA hS (Sk P) fun s' acc' c' hm hS' hacc=>?_⟩;exact hR s' acc' c' hm hS' hacc
theorem qc(W:WalksS prog w A.in1 I fp wr G n P St)(hT:∀i s,St i s->s.TypeIs (.ref I) "list_reverseiterator")(S:Addr)(EA:St 0 s)(EU:S∉fp)(hI:I∈fp)
  (hS:s.heap.get? S=some {cls:=.type "list",data:=.seq #[]})
  (hR:∀s' acc' c',T0 (S::wr) G s s'->s'.heap.get? S=some {cls:=.type "list",dict:=none,data:=.seq acc' c',slots:=#[]}->S6 P acc' n->R (.ok (.ret .none)) s')(hn:n<=sizeLine:=by size_fits):
  Zq (model prog w) A.in1 (XC.«list.__init__» ⟨[.ref S,.ref I],[]⟩)
   (fun fin s'=>match fin with| .done f=>R (.ok f) s'| .again c'=>c'.quiet=true/\Xd (model prog w) A c' R s') (fun e s'=>R (.error e) s') s:=by
 show Zq _ A.in1 (do let old <-XD (.ref S);Vp (.ref S) (fun _=>#[]);letGo old.toList.reverse;ZW (.ref S) (.ref I) .none) _ _ s
 refine Z1 ?_;unfold XD;refine Z1 (XV hS rfl (Z7 ?_));show Zq _ A.in1 (updateSeq S (fun _=>#[])>>=fun _=>letGo (#[]:Array Value).toList.reverse>>=fun _=>ZW (.ref S) (.ref I) .none) _ _ s;refine Z1 (Xq hS rfl ?_);have hS₂:=Yi (Y8 (fun _=>(#[]:Array Value))) hS rfl;have oth:∀b o,b≠S->s.heap.get? b=some o->(s.heap.update S (Y8 (fun _=>(#[]:Array Value)))).get? b=some o:=
  fun b o hb e=>(Ym _ _ (Ne.symm hb)).trans e
 refine Z1 (Sh ?_);refine vB (hn:=hn) W hT S .none _ (W.frame 0 s _ s.toks EA (Nat.le_refl _) fun b hb o e=>oth b o (fun h=>EU (h ▸ hb)) e) EU hI hS₂ fun s' acc' c' hm hS' hacc=>?_;exact hR s' acc' c' (Moved.trans W.gtrans ((Moved.refl W.grefl).then_heap (Nat.le_refl _) fun b o hb e=>oth b o (fun h=>hb (h ▸ Za)) e) hm) hS' hacc
end
section
variable{prog:Zv}{w:Zl}{A:ZK}{E:Value->Shared->Prop}{s:Shared}
theorem qf{Q:Value->Shared->Prop}{I l:Addr}{items:Array Value}(hh:A.handled=none)(EJ:l≠I)(hit:s.heap.IsRevIter I l ((items.size:Int)-1))(hl:s.heap.IsList l items)(hn:items.size<=sizeLine)
  (hQ:∀h' tk (acc:Array Value) c',(∀b o,b≠I->s.heap.get? b=some o->h'.get? b=some o)->h'.get? s.heap.objs.size=some {cls:=.type "list",dict:=none,data:=.seq acc c',slots:=#[]}->
   acc.size=items.size->(∀(j:Nat) v,acc[j]?=some v->items[items.size-1-j]?=some v)->Q (.ref s.heap.objs.size) {s with heap:=h',toks:=tk}):
  Zq (model prog w) A (call (.type "list") [.ref I]) Q E s:=by
 have W:=(Walks.listRev (prog:=prog) (w:=w) (A:=A.in1.in1) (by simp[hh]) I l EJ items).toS
 have hIlt:I<s.heap.objs.size:=by obtain⟨o,ho,_⟩:=hit;exact Z_ ho
 have hllt:l<s.heap.objs.size:=by obtain⟨o,ho,_⟩:=hl;exact Z_ ho
 have EU:s.heap.objs.size∉[I,l]:=by
  simp only[Zz,Zr,or_false,W6];exact⟨Nat.ne_of_gt hIlt,Nat.ne_of_gt hllt⟩
 refine T5 (Q₁:=fun obj s₁=>obj=.ref s.heap.objs.size/\s₁={s with heap:=s.heap.push {cls:=.type "list",data:=.seq #[]}}) U9 (Vo _) Vn
  (TL _ ⟨rfl,rfl⟩) fun obj s₁ h₁=>?_
 obtain⟨rfl,rfl⟩:=h₁;have hS:(s.heap.push {cls:=.type "list",data:=.seq #[]}).get? s.heap.objs.size=some {cls:=.type "list",data:=.seq #[]}:=Zk _ rfl;have hit0:s.heap.IsRevIter I l ((items.size:Int)-1-((0:Nat):Int)):=by simpa using hit
 refine⟨⟨_,hS,rfl⟩,Vy _ _,qc (hn:=hn) W (fun i s st=>st.2.1.typeIs) _ ⟨Nat.zero_le _,hit0.at fun o e=>Z8 _ e,hl.push _⟩ EU (by simp) hS fun s' acc' c' hm hS' hacc=>?_⟩
 refine⟨rfl,?_⟩;rw[Moved.eq_with hm];refine hQ s'.heap s'.toks acc' c' (fun b o hb e=>hm.heap b o ?_ (Z8 _ e)) hS' hacc.1 hacc.2;simp only[Zz,Zr,or_false,W6];exact⟨Nat.ne_of_lt (Z_ e),hb⟩
end
noncomputable abbrev eU(h:ZF)(z TI TO:Addr)(f0:Value)(f1:Bool):Prop:=
 h.get? z=some {cls:=.type "zip",dict:=none,data:=.fields #[f0,.bool f1,.bool false,.ref TI,.ref TO],slots:=#[]}
section
variable{prog:Zv}{w:Zl}{A:ZK}{E:Value->Shared->Prop}{s:Shared}
theorem nF{z TI TO T:Addr}{f1:Bool}{oT:Obj}{Q:Bool->Shared->Prop}(hz:eU s.heap z TI TO (Yu T) f1)(hT:s.heap.get? T=some oT)
  (h:∀h',eU h' z TI TO (Yu T) true->X9 z s.heap h'->Q false {s with heap:=h'}):Zq (model prog w) A (YI (.ref z)) Q E s:=by
 unfold YI;refine Z1 (WE hz rfl (x:=Yu T) rfl ?_);show Zq _ _ (loadIfAlive (T:Int).toNat>>=_) _ _ _;have hal:∀{Q':Option Obj->Shared->Prop},Q' (some oT) s->Zq (model prog w) A (loadIfAlive ((T:Nat):Int).toNat) Q' E s:=by
  intro Q' hq;have e:s.heap.get? ((T:Nat):Int).toNat=some oT:=by simpa using hT
  intro Γ p hΓ;unfold loadIfAlive;rw[Sem.wp_loadIfAlive,e];exact hq
 refine Z1 (hal ?_);simp only[Option.isNone_some,Zw,if_false];refine Z1 (WE hz rfl (x:=.bool f1) rfl ?_);cases f1 with
 |true=>
  rw[if_neg (by decide)]
  exact Z7 (h s.heap hz (V8 _ _))
 |false=>
  rw[if_pos (by decide)]
  refine Z1 (Ww hz (by simp) fun h' hz' hs'=>Z7 (h h' hz' hs'))
theorem oM{z TI TO T i1 i2 l1 l2:Addr}{f1:Bool}{oT:Obj}{k1 k2:Nat}{xs ys:Array Value}{x y a b:Value}{Q:Value->Shared->Prop}(D:WF z TI TO i1 i2 l1 l2)
  (hz:eU s.heap z TI TO (Yu T) f1)(hT:s.heap.get? T=some oT)(EV:Xy s.heap TI (.ref i1) (.ref i2))(EW:Xy s.heap TO a b)
  (h1:s.heap.IsListIter i1 l1 k1)(h2:s.heap.IsListIter i2 l2 k2)(ES:s.heap.IsList l1 xs)(Fj:s.heap.IsList l2 ys)(hx:xs[k1]?=some x)(hy:ys[k2]?=some y)
  (hQ:∀h',eU h' z TI TO (Yu T) true->Xy h' TO a b->h'.IsListIter i1 l1 (k1+1)->h'.IsListIter i2 l2 (k2+1)->Xy h' s.heap.objs.size x y->h'.objs.size=s.heap.objs.size+1->
   (∀c o,c≠z->c≠TO->c≠i1->c≠i2->s.heap.get? c=some o->h'.get? c=some o)->Q (.ref s.heap.objs.size) {s with heap:=h'}):
  Zq (model prog w) A (XC.«zip.__next__» ⟨[.ref z],[]⟩) (fun fin s'=>∃v,fin=.done (.ret v)/\Q v s') E s:=by
 show Zq _ _ (field (.ref z) 2>>=_) _ _ _;refine Z1 (WE hz rfl (x:=.bool false) rfl ?_);show Zq _ _ (field (.ref z) 3>>=_) _ _ _;refine Z1 (WE hz rfl (x:=.ref TI) rfl ?_);refine Z1 (XV EV rfl ?_);show Zq _ _ (YI (.ref z)>>=_) _ _ _;refine Z1 (nF hz hT fun h₁ hz₁ hs₁=>?_);simp only[Zw,if_false];refine Z1 ?_;rw[<-Wx];simp only[VF,T6];refine Z1 (Z1 (Yj ?_));show Zq _ _ (W3 (.ref i1)>>=_) _ _ _;refine Z1 (Vc (h1.extBut hs₁.extBut D.i1z) (ES.extBut hs₁.extBut D.l1z) hx fun h₂ h1₂ hs₂=>Z7 (Z7 ?_));refine Z1 (Z1 (Yj ?_));show Zq _ _ (W3 (.ref i2)>>=_) _ _ _;refine Z1 (Vc ((h2.extBut hs₁.extBut D.i2z).extBut hs₂.extBut D.i12.symm)
  ((Fj.extBut hs₁.extBut D.l2z).extBut hs₂.extBut D.l2i1) hy fun h₄ h2₄ hs₄=>Z7 (Z7 (Z7 ?_)))
 show Zq _ _ (newTuple [x,y]>>=_) _ _ _;refine Z1 (wpAny_newTuple ?_ (by show 2<=sizeLine;rw[XU];lia))
 have hsz:h₄.objs.size=s.heap.objs.size:=by rw[hs₄.1,hs₂.1,hs₁.1]
 have hz₄:eU h₄ z TI TO (Yu T) true:=hs₄.extBut _ _ D.i2z.symm (hs₂.extBut _ _ D.i1z.symm hz₁);have hk₄:∀c o,c≠z->c≠TO->c≠i1->c≠i2->s.heap.get? c=some o->h₄.get? c=some o:=fun c o c1 c2 c3 c4 e=>
  hs₄.extBut _ _ c4 (hs₂.extBut _ _ c3 (hs₁.extBut _ _ c1 e))
 have h1₄:h₄.IsListIter i1 l1 (k1+1):=h1₂.extBut hs₄.extBut D.i12;have hTO₄:Xy h₄ TO a b:=hs₄.extBut _ _ D.TOi2 (hs₂.extBut _ _ D.TOi1 (hs₁.extBut _ _ D.TOz EW));refine Z7 ⟨_,rfl,?_⟩;show Q (.ref h₄.objs.size) _;rw[hsz];have up:∀c o,h₄.get? c=some o->(h₄.push {cls:=.type "tuple",data:=.seq #[x,y]}).get? c=some o:=fun c o e=>Z8 _ e;refine hQ _ (up _ _ hz₄) (up _ _ hTO₄) (h1₄.at fun o e=>up _ o e) (h2₄.at fun o e=>up _ o e) ?_ ?_ fun c o c1 c2 c3 c4 e=>up c o (hk₄ c o c1 c2 c3 c4 e)
 ·rw[<-hsz];exact Zk _ rfl
 ·rw[Ys,hsz]
theorem qg{z TI TO T i1 i2 l1 l2:Addr}{f1:Bool}{oT:Obj}{k1 k2:Nat}{xs ys:Array Value}{Q:Fin->Shared->Prop}(hh:A.handled=none)(D:WF z TI TO i1 i2 l1 l2)
  (hz:eU s.heap z TI TO (Yu T) f1)(hT:s.heap.get? T=some oT)(EV:Xy s.heap TI (.ref i1) (.ref i2))
  (h1:s.heap.IsListIter i1 l1 k1)(ES:s.heap.IsList l1 xs)(Fk:xs[k1]?=none)
  (hE:∀h' e,(∀c o,c≠z->c≠TO->c≠i1->c≠i2->s.heap.get? c=some o->h'.get? c=some o)->(∃o,h'.get? e=some o/\o.cls=.type "StopIteration")->E (.ref e) {s with heap:=h'}):
  Zq (model prog w) A (XC.«zip.__next__» ⟨[.ref z],[]⟩) Q E s:=by
 show Zq _ _ (field (.ref z) 2>>=_) _ _ _;refine Z1 (WE hz rfl (x:=.bool false) rfl ?_);show Zq _ _ (field (.ref z) 3>>=_) _ _ _;refine Z1 (WE hz rfl (x:=.ref TI) rfl ?_);refine Z1 (XV EV rfl ?_);show Zq _ _ (YI (.ref z)>>=_) _ _ _;refine Z1 (nF hz hT fun h₁ hz₁ hs₁=>?_);simp only[Zw,if_false];refine Z1 ?_;rw[<-Wx];simp only[VF,T6];refine Z1 (Z1 (Yj ?_));show Zq _ _ (W3 (.ref i1)>>=_) _ _ _;refine Z1 (wpAny_nextOf_list_end hh (h1.extBut hs₁.extBut D.i1z) (ES.extBut hs₁.extBut D.l1z) Fk fun h₂ e hs₂ he=>?_);exact hE h₂ e (fun c o c1 _ c3 _ q=>hs₂ _ _ c3 (hs₁.extBut _ _ c1 q)) he
theorem mh{z TI TO T i1 i2 l1 l2:Addr}{f1:Bool}{oT:Obj}{k1 k2:Nat}{xs ys:Array Value}{x y a b:Value}{Q:Option Value->Shared->Prop}(D:WF z TI TO i1 i2 l1 l2)
  (hz:eU s.heap z TI TO (Yu T) f1)(Fw:s.heap.get? T=some oT)(EV:Xy s.heap TI (.ref i1) (.ref i2))(EW:Xy s.heap TO a b)
  (h1:s.heap.IsListIter i1 l1 k1)(h2:s.heap.IsListIter i2 l2 k2)(ES:s.heap.IsList l1 xs)(Fj:s.heap.IsList l2 ys)(hx:xs[k1]?=some x)(hy:ys[k2]?=some y)
  (hQ:∀h',eU h' z TI TO (Yu T) true->Xy h' TO a b->h'.IsListIter i1 l1 (k1+1)->h'.IsListIter i2 l2 (k2+1)->Xy h' s.heap.objs.size x y->h'.objs.size=s.heap.objs.size+1->
   (∀c o,c≠z->c≠TO->c≠i1->c≠i2->s.heap.get? c=some o->h'.get? c=some o)->Q (some (.ref s.heap.objs.size)) {s with heap:=h'}):
  Zq (model prog w) A (pyNext (.ref z)) Q E s:=by
 have hT:s.TypeIs (.ref z) "zip" :=⟨_,hz,rfl⟩;unfold pyNext;exact Z1 (Vx (Xa (name:=ZY "__next__") hT XJ
  (Xv XJ hT Vb
   (oM D hz Fw EV EW h1 h2 ES Fj hx hy fun h' a1 a2 a3 a4 a5 a6 a7=>Z7 (hQ h' a1 a2 a3 a4 a5 a6 a7)) (Vm _))))
theorem nU{z TI TO T i1 i2 l1 l2:Addr}{f1:Bool}{oT:Obj}{k1:Nat}{xs:Array Value}{Q:Option Value->Shared->Prop}(hh:A.handled=none)(D:WF z TI TO i1 i2 l1 l2)
  (hz:eU s.heap z TI TO (Yu T) f1)(Fw:s.heap.get? T=some oT)(EV:Xy s.heap TI (.ref i1) (.ref i2))
  (h1:s.heap.IsListIter i1 l1 k1)(ES:s.heap.IsList l1 xs)(Fk:xs[k1]?=none)
  (hQ:∀h',(∀c o,c≠z->c≠TO->c≠i1->c≠i2->s.heap.get? c=some o->h'.get? c=some o)->Q none {s with heap:=h'}):Zq (model prog w) A (pyNext (.ref z)) Q E s:=by
 have hT:s.TypeIs (.ref z) "zip" :=⟨_,hz,rfl⟩;unfold pyNext;refine Z1 (Vx (Xa (name:=ZY "__next__") hT XJ
  (Xv XJ hT Vb (qg (k2:=0) (ys:=#[]) hh D hz Fw EV h1 ES Fk fun h' e hk he=>?_) (Vm _))))
 obtain⟨o,ho,hc⟩:=he;refine Z1 (Wf (T := "StopIteration") (b:=true) ⟨o,ho,hc⟩ T7 ?_);exact Z7 (hQ _ hk)
theorem nK{R:VT->Shared->Prop}{I S:Addr}{n:Nat}(hn:n<=sizeLine)(res:Value)(J:Nat->Array Value->Shared->Prop)(Fin:Array Value->Shared->Prop)
  (hsz:∀i acc s,J i acc s->acc.size=i)
  (item:∀i acc s (E:Value->Shared->Prop),i<n->J i acc s->Zq (model prog w) A.in1 (pyNext (.ref I)) (fun r s'=>∃v c,r=some v/\s'.heap.get? S=some {cls:=.type "list",dict:=none,data:=.seq acc c,slots:=#[]}/\
   J (i+1) (acc.push v) {s' with heap:=s'.heap.update S (Y8 (·.push v))}) E s)
  (done:∀acc s (E:Value->Shared->Prop),J n acc s->Zq (model prog w) A.in1 (pyNext (.ref I)) (fun r s'=>r=none/\Fin acc s') E s)
  (hR:∀acc s',Fin acc s'->R (.ok (.ret res)) s'):
  ∀(k i:Nat) (acc:Array Value) (s:Shared),n-i=k->i<=n->J i acc s->Xd (model prog w) A (.builtin "list.extend.loop" ⟨[.ref S,.ref I,res],[]⟩) R s:=by
 intro k
 induction k with
 |zero=>
  intro i acc s hk hi hJ;have hin:i=n:=by lia
  subst hin;refine Yk V4 ?_;rw[Yp YD _];show Zq _ A.in1 (pyNext (.ref I)>>=_) _ _ s;refine Z1 (Y0 (done acc s _ hJ) (fun r s' zz=>?_) fun _ _ e=>e);obtain⟨hr,hf⟩:=zz;subst hr;exact Z7 (hR acc s' hf)
 |succ k ih=>
  intro i acc s hk hi hJ;have Eu:i<n:=by lia
  refine Yk V4 ?_;rw[Yp YD _];show Zq _ A.in1 (pyNext (.ref I)>>=_) _ _ s;refine Z1 (Y0 (item i acc s _ Eu hJ) (fun r s' zz=>?_) fun _ _ e=>e);obtain⟨v,c,hr,hS,hJ'⟩:=zz;subst hr;have FL:=hsz i acc s hJ;show Zq _ A.in1 (updateSeq S (·.push v)>>=_) _ _ _;refine Z1 ?_;refine Xq hS rfl (Z7 ⟨Xi YD _,ih (i+1) _ _ (by lia) Eu hJ'⟩)
   (by rw[FL];lia) (by show (acc.push v).size<=sizeLine+1;rw[UQ,FL];lia)
structure sw(s₀:Shared)(z TI TO i1 i2 l1 l2 S N:Nat)(xs ys:Array Value)(i:Nat)(acc:Array Value)(s:Shared):Prop where
 st:∃h',s={s₀ with heap:=h'}
 sz:acc.size=i
 hs:s.heap.objs.size=N+i
 ac:∀j,j<i->∃x y,xs[j]?=some x/\ys[j]?=some y/\acc[j]?=some (.ref (N+j))/\Xy s.heap (N+j) x y
 zz:(i=0/\IsZip s.heap z TI TO .none)\/(0<i/\∃f1,eU s.heap z TI TO (Yu N) f1)
 ti:Xy s.heap TI (.ref i1) (.ref i2)
 to:∃a b,Xy s.heap TO a b
 h1:s.heap.IsListIter i1 l1 i
 h2:s.heap.IsListIter i2 l2 i
 l1:s.heap.IsList l1 xs
 l2:s.heap.IsList l2 ys
 ls:∃c,s.heap.get? S=some {cls:=.type "list",dict:=none,data:=.seq acc c,slots:=#[]}
 old:∀(b:Nat) o,b<N->b≠z->b≠TO->b≠i1->b≠i2->b≠S->s₀.heap.get? b=some o->s.heap.get? b=some o
theorem y7{s₀:Shared}{z TI TO i1 i2 l1 l2 S N:Nat}{xs ys:Array Value}(D:WF z TI TO i1 i2 l1 l2)(G9:S≠z)(hSTI:S≠TI)(Fy:S≠TO)(EN:S≠i1)(EK:S≠i2)(hSl1:S≠l1)(hSl2:S≠l2)
  (hN:z<N/\TI<N/\TO<N/\i1<N/\i2<N/\l1<N/\l2<N/\S<N)(Ge:xs.size=ys.size){i:Nat}(hi:i<xs.size){acc:Array Value}{s:Shared}(J:sw s₀ z TI TO i1 i2 l1 l2 S N xs ys i acc s){E:Value->Shared->Prop}:
  Zq (model prog w) A (pyNext (.ref z)) (fun r s'=>∃v c,r=some v/\s'.heap.get? S=some {cls:=.type "list",dict:=none,data:=.seq acc c,slots:=#[]}/\
   sw s₀ z TI TO i1 i2 l1 l2 S N xs ys (i+1) (acc.push v) {s' with heap:=s'.heap.update S (Y8 (·.push v))}) E s:=by
 obtain⟨h0,rfl⟩:=J.st;have hx:xs[i]?=some xs[i]:=Zb hi;have hy:ys[i]?=some (ys[i]'(by lia)):=Zb (by lia)
 obtain⟨a,b,EW⟩:=J.to;obtain⟨c,hS⟩:=J.ls;have hsz:h0.objs.size=N+i:=J.hs;have fin:∀h':ZF,(∃f1,eU h' z TI TO (Yu N) f1)->(∃a b,Xy h' TO a b)->h'.IsListIter i1 l1 (i+1)->h'.IsListIter i2 l2 (i+1)->Xy h' (N+i) xs[i] (ys[i]'(by lia))->h'.objs.size=N+i+1->
   (∀(c:Nat) o,c≠z->c≠TO->c≠i1->c≠i2->h0.get? c=some o->h'.get? c=some o)->
   ∃v c,(some (Value.ref (N+i)):Option Value)=some v/\h'.get? S=some {cls:=.type "list",dict:=none,data:=.seq acc c,slots:=#[]}/\
    sw s₀ z TI TO i1 i2 l1 l2 S N xs ys (i+1) (acc.push v) {s₀ with heap:=h'.update S (Y8 (·.push v))}:=by
  intro h' ⟨f1,hz'⟩ ⟨a',b',hTO'⟩ h1' h2' Fw hs' hk';have hS':h'.get? S=some {cls:=.type "list",dict:=none,data:=.seq acc c,slots:=#[]}:=hk' S _ G9 Fy EN EK hS;refine⟨.ref (N+i),c,rfl,hS',?_⟩;have up:∀(b:Nat) o,b≠S->h'.get? b=some o->(h'.update S (Y8 (·.push (.ref (N+i))))).get? b=some o:=fun b o hb e=>(Ym _ _ (Ne.symm hb)).trans e;have hS'':=Yi (Y8 (·.push (Value.ref (N+i)))) hS' rfl;refine⟨⟨_,rfl⟩,by rw[UQ,J.sz],by show (h'.update S _).objs.size=_;rw[We,hs'];lia,?_,.inr ⟨by lia,f1,up _ _ (Ne.symm G9) hz'⟩,up _ _ (Ne.symm hSTI) (hk' _ _ D.TIz D.TITO D.TIi1 D.TIi2 J.ti),⟨a',b',up _ _ (Ne.symm Fy) hTO'⟩,
   h1'.at fun o e=>up _ o (Ne.symm EN) e,h2'.at fun o e=>up _ o (Ne.symm EK) e,(J.l1.at fun o e=>hk' _ o D.l1z D.l1TO D.l1i1 D.l1i2 e).at fun o e=>up _ o (Ne.symm hSl1) e,
   (J.l2.at fun o e=>hk' _ o D.l2z D.l2TO D.l2i1 D.l2i2 e).at fun o e=>up _ o (Ne.symm hSl2) e,⟨_,hS''⟩,fun b o hb b1 b2 b3 b4 b5 e=>up b o b5 (hk' b o b1 b2 b3 b4 (J.old b o hb b1 b2 b3 b4 b5 e))⟩
  intro j hj;by_cases c:j=i
  ·subst c;exact⟨_,_,hx,hy,by rw[WL,if_pos J.sz.symm],up _ _ (by lia) Fw⟩
  ·obtain⟨x,y,e1,e2,e3,e4⟩:=J.ac j (by lia)
   refine⟨x,y,e1,e2,?_,up _ _ (by lia) (hk' _ _ (by lia) (by lia) (by lia) (by lia) e4)⟩
   rw[WL,if_neg (by rw[J.sz];lia)];exact e3
 rcases J.zz with ⟨rfl,hz⟩|⟨Fe,f1,hz⟩
 ·refine VN D hz J.ti EW J.h1 J.h2 J.l1 J.l2 hx hy fun h' a1 a2 a3 a4 a5 a6 a7=>?_;have a1':eU h' z TI TO (Yu h0.objs.size) false:=a1;have a5':Xy h' h0.objs.size xs[0] (ys[0]'(by lia)):=a5
  have a6':h'.objs.size=h0.objs.size+1:=a6;rw[hsz]at a1' a5' a6';show ∃v c,(some (Value.ref h0.objs.size):Option Value)=some v/\_;rw[hsz];exact fin h' ⟨false,a1'⟩ ⟨_,_,a2⟩ a3 a4 a5' a6' a7
 ·obtain⟨x0,y0,_,_,_,hT0⟩:=J.ac 0 Fe;rw[Nat.add_zero]at hT0;refine mh D hz hT0 J.ti EW J.h1 J.h2 J.l1 J.l2 hx hy fun h' a1 a2 a3 a4 a5 a6 a7=>?_;have a5':Xy h' h0.objs.size xs[i] (ys[i]'(by lia)):=a5
  have a6':h'.objs.size=h0.objs.size+1:=a6;rw[hsz]at a5' a6';show ∃v c,(some (Value.ref h0.objs.size):Option Value)=some v/\_;rw[hsz];exact fin h' ⟨true,a1⟩ ⟨_,_,a2⟩ a3 a4 a5' a6' a7
theorem Ac{s₀:Shared}{z TI TO i1 i2 l1 l2 S N:Nat}{xs ys:Array Value}(hh:A.handled=none)(D:WF z TI TO i1 i2 l1 l2)(G9:S≠z)(Fy:S≠TO)(EN:S≠i1)(EK:S≠i2)(hN:z<N/\TO<N/\i1<N/\i2<N)
  {acc:Array Value}{s:Shared}(J:sw s₀ z TI TO i1 i2 l1 l2 S N xs ys xs.size acc s){E:Value->Shared->Prop}:
  Zq (model prog w) A (pyNext (.ref z)) (fun r s'=>r=none/\∃h',s'={s₀ with heap:=h'}/\(∃c,h'.get? S=some {cls:=.type "list",dict:=none,data:=.seq acc c,slots:=#[]})/\acc.size=xs.size/\
   (∀j,j<xs.size->∃x y,xs[j]?=some x/\ys[j]?=some y/\acc[j]?=some (.ref (N+j))/\Xy h' (N+j) x y)/\∀(b:Nat) o,b<N->b≠z->b≠TO->b≠i1->b≠i2->b≠S->s₀.heap.get? b=some o->h'.get? b=some o) E s:=by
 obtain⟨h0,rfl⟩:=J.st;obtain⟨c,hS⟩:=J.ls;have Fk:xs[xs.size]?=none:=YB (Nat.le_refl _);have fin:∀h':ZF,(∀(c:Nat) o,c≠z->c≠TO->c≠i1->c≠i2->h0.get? c=some o->h'.get? c=some o)->
   (none:Option Value)=none/\∃h'',({s₀ with heap:=h'}:Shared)={s₀ with heap:=h''}/\(∃c,h''.get? S=some {cls:=.type "list",dict:=none,data:=.seq acc c,slots:=#[]})/\acc.size=xs.size/\
   (∀j,j<xs.size->∃x y,xs[j]?=some x/\ys[j]?=some y/\acc[j]?=some (.ref (N+j))/\Xy h'' (N+j) x y)/\∀(b:Nat) o,b<N->b≠z->b≠TO->b≠i1->b≠i2->b≠S->s₀.heap.get? b=some o->h''.get? b=some o:=by
  intro h' hk;refine⟨rfl,h',rfl,⟨c,hk _ _ G9 Fy EN EK hS⟩,J.sz,fun j hj=>?_,fun b o hb b1 b2 b3 b4 b5 e=>hk b o b1 b2 b3 b4 (J.old b o hb b1 b2 b3 b4 b5 e)⟩;obtain⟨x,y,e1,e2,e3,e4⟩:=J.ac j hj;exact⟨x,y,e1,e2,e3,hk _ _ (by lia) (by lia) (by lia) (by lia) e4⟩
 rcases J.zz with ⟨h00,hz⟩|⟨Fe,f1,hz⟩
 ·obtain⟨a,b,EW⟩:=J.to;exact U1 hh D hz J.ti EW J.h1 J.h2 J.l1 J.l2 (.inl Fk) fun h' hk=>fin h' hk
 ·obtain⟨x0,y0,_,_,_,hT0⟩:=J.ac 0 Fe;rw[Nat.add_zero]at hT0;exact nU hh D hz hT0 J.ti J.h1 J.l1 Fk fun h' hk=>fin h' hk
theorem qh{Q:Value->Shared->Prop}{l1 l2:Nat}{xs ys:Array Value}(hh:A.handled=none)(ES:s.heap.IsList l1 xs)(Fj:s.heap.IsList l2 ys)(Ge:xs.size=ys.size)(hn:xs.size<=sizeLine)
  (hQ:∀(h':ZF) (acc:Array Value) (S N:Nat) (c:Nat),(∀(b:Nat) o,s.heap.get? b=some o->h'.get? b=some o)->s.heap.objs.size<=S->S<N->h'.get? S=some {cls:=.type "list",dict:=none,data:=.seq acc c,slots:=#[]}->acc.size=xs.size->
   (∀j,j<xs.size->∃x y,xs[j]?=some x/\ys[j]?=some y/\acc[j]?=some (.ref (N+j))/\Xy h' (N+j) x y)->Q (.ref S) {s with heap:=h'}):
  Zq (model prog w) A (call (.type "zip") [.ref l1,.ref l2]) (fun v s1=>Zq (model prog w) A (call (.type "list") [v]) Q E s1) E s:=by
 have lt1:l1<s.heap.objs.size:=by obtain⟨o,ho,_⟩:=ES;exact Z_ ho
 have lt2:l2<s.heap.objs.size:=by obtain⟨o,ho,_⟩:=Fj;exact Z_ ho
 refine call_zip_2 ES Fj fun h' hz EV EW hi1 hi2 hsz hk=>?_;generalize hM:s.heap.objs.size=M at *
 have D:WF (M+4) (M+2) (M+3) M (M+1) l1 l2:=by constructor<;>(show @Ne Nat _ _;lia)
 refine T5 (Q₁:=fun obj s₁=>obj=.ref h'.objs.size/\s₁={s with heap:=h'.push {cls:=.type "list",data:=.seq #[]}}) U9 (Vo _) Vn
  (TL _ ⟨rfl,rfl⟩) fun obj s₁ h₁=>?_
 obtain⟨rfl,rfl⟩:=h₁;have hS:(h'.push {cls:=.type "list",data:=.seq #[]}).get? h'.objs.size=some {cls:=.type "list",data:=.seq #[]}:=Zk _ rfl;refine⟨⟨_,hS,rfl⟩,Vy _ _,?_⟩;rw[hsz]at hS ⊢;show Zq _ A.in1.in1 (do let old <-XD (.ref (M+5));Vp (.ref (M+5)) (fun _=>#[]);letGo old.toList.reverse;ZW (.ref (M+5)) (.ref (M+4)) .none) _ _ _
 refine Z1 ?_;unfold XD;refine Z1 (XV hS rfl (Z7 ?_));show Zq _ A.in1.in1 (updateSeq (M+5) (fun _=>#[])>>=fun _=>letGo (#[]:Array Value).toList.reverse>>=fun _=>ZW (.ref (M+5)) (.ref (M+4)) .none) _ _ _;refine Z1 (Xq hS rfl ?_);have hS₂:=Yi (Y8 (fun _=>(#[]:Array Value))) hS rfl;refine Z1 (Sh ?_);have k2:∀(b:Nat) o,b<M+5->h'.get? b=some o->((h'.push {cls:=.type "list",data:=.seq #[]}).update (M+5) (Y8 (fun _=>(#[]:Array Value)))).get? b=some o:=
  fun b o hb e=>(Ym _ _ (show @Ne Nat _ _ by lia)).trans (Z8 _ e)
 have sz2:((h'.push {cls:=.type "list",data:=.seq #[]}).update (M+5) (Y8 (fun _=>(#[]:Array Value)))).objs.size=M+6:=by rw[We,Ys,hsz]
 generalize (h'.push {cls:=.type "list",data:=.seq #[]}).update (M+5) (Y8 (fun _=>(#[]:Array Value)))=h2 at *
 have hTz:Shared.TypeIs {s with heap:=h2} (.ref (M+4)) "zip" :=⟨_,k2 _ _ (by lia) hz,rfl⟩
 unfold ZW;refine Z1 (WQ hTz ?_);have q1:YH (.ref (M+5)) (.ref (M+4))=false:=by simp[YH]
 have q2:(Value.type "zip"==Value.type "list")=false:=by decide
 have q3:(Value.type "zip"==Value.type "tuple")=false:=by decide
 simp only[q1,q2,q3,WB,Zw,if_false];refine Z1 (Vl (k2 _ _ (by lia) hz) ?_)
 refine Z1 (Yj ?_);unfold Xz;refine Z1 (Xr hTz F.zip_no_len ?_);show Zq _ A.in1.in1 (specialOf (Value.ref (M+4)) (ZY "__length_hint__")>>=_) _ _ _;refine Z1 (Xr hTz F.zip_no_hint ?_);refine Z7 ?_;show Zq _ A.in1.in1 (rule "list.extend.makes-room">>=fun _=>S7 (.ref (M+5))>>=fun _=>
  again (.builtin "list.extend.loop" ⟨[.ref (M+5),.ref (M+4),.none],[]⟩)) _ _ _
 refine Z1 (T8 ?_);refine Z1 ?_;show Zq _ A.in1.in1 (updateSeq (M+5) (·.push .none)>>=fun _=>updateSeq (M+5) (·.pop)) _ _ _;refine Z1 (Xq hS₂ rfl ?_);have hS₃:=Yi (Y8 (·.push Value.none)) hS₂ rfl;refine Xq (hz:=by seq_fits) hS₃ rfl ?_
 have hS₄:=Yi (Y8 (·.pop)) hS₃ rfl;have k3:∀(b:Nat) o,b<M+5->h'.get? b=some o->((h2.update (M+5) (Y8 (·.push Value.none))).update (M+5) (Y8 (·.pop))).get? b=some o:=
  fun b o hb e=>(Ym _ _ (show @Ne Nat _ _ by lia)).trans ((Ym _ _ (show @Ne Nat _ _ by lia)).trans (k2 b o hb e))
 have sz3:((h2.update (M+5) (Y8 (·.push Value.none))).update (M+5) (Y8 (·.pop))).objs.size=M+6:=by rw[We,We,sz2]
 generalize ((h2.update (M+5) (Y8 (·.push Value.none))).update (M+5) (Y8 (·.pop)))=h3 at *
 refine Z7 ⟨Xi YD _,nK (A:=A.in1) (n:=xs.size) hn .none (sw {s with heap:=h3} (M+4) (M+2) (M+3) M (M+1) l1 l2 (M+5) (M+6) xs ys)
  (fun acc s'=>∃h'',s'={s with heap:=h''}/\(∃c,h''.get? (M+5)=some {cls:=.type "list",dict:=none,data:=.seq acc c,slots:=#[]})/\acc.size=xs.size/\
   (∀j,j<xs.size->∃x y,xs[j]?=some x/\ys[j]?=some y/\acc[j]?=some (.ref (M+6+j))/\Xy h'' (M+6+j) x y)/\∀(b:Nat) o,b<M->h3.get? b=some o->h''.get? b=some o)
  (fun i acc s' J=>J.sz) (fun i acc s' E' hi J=>?_) (fun acc s' E' J=>?_) (fun acc s' hfin=>?_) xs.size 0 #[] _ rfl (Nat.zero_le _) ?_⟩
 ·exact y7 (A:=A.in1.in1) D (by lia) (by lia) (by lia) (by lia) (by lia) (by lia) (by lia) (by lia) Ge hi J
 ·refine Y0 (Ac (A:=A.in1.in1) (by simp[hh]) D (by lia) (by lia) (by lia) (by lia) (by lia) J) (fun r EX ⟨hr,h'',e,hc,a1,a2,a3⟩=>⟨hr,h'',e,hc,a1,a2,fun b o hb q=>?_⟩) fun _ _ e=>e
  exact a3 b o (by lia) (by lia) (by lia) (by lia) (by lia) (by lia) q
 ·obtain⟨h'',rfl,⟨c,hc⟩,a1,a2,a3⟩:=hfin;refine⟨rfl,?_⟩;refine hQ h'' acc (M+5) (M+6) c (fun b o e=>?_) (by lia) (by lia) hc a1 a2
  have hb:b<M:=by rw[<-hM];exact Z_ e
  exact a3 b o hb (k3 b o (by lia) (hk b o e))
 ·refine⟨⟨_,rfl⟩,rfl,sz3,fun j hj=>absurd hj (by lia),.inl ⟨rfl,k3 _ _ (by lia) hz⟩,k3 _ _ (by lia) EV,⟨_,_,k3 _ _ (by lia) EW⟩,hi1.at fun o e=>k3 _ o (by lia) e,hi2.at fun o e=>k3 _ o (by lia) e,
   (ES.at fun o e=>hk _ o e).at fun o e=>k3 _ o (by lia) e,(Fj.at fun o e=>hk _ o e).at fun o e=>k3 _ o (by lia) e,⟨_,hS₄⟩,fun b o _ _ _ _ _ _ e=>e⟩
end
end FS
end
section
namespace L2
open PySem PySem.Spec PyProof.Rows
theorem HOk.grow{P:Zv}{w:Zl}{H H':Hp}{h h':ZF}(x:HOk P w H h)(k:∀b u,h.get? b=some u->h'.get? b=some u)(hx:∀b u,H b=some u->H' b=some u)
  (new:∀b o,H' b=some o->H b=some o\/bF P w H' h' b o):HOk P w H' h':=fun b o e=>by
 rcases new b o e with q|q
 ·exact (x b o q).stay (fun c v _ z=>k c v z) (fun c z=>hx c _ z) fun c xs z=>hx c _ z
 ·exact q
theorem Inv.grow{X:Cx}{aa:List (Addr×Obj)}{σ:List (Option V)}{H H':Hp}{s:Shared}{h':ZF}{t':Nat}(I:Inv X aa σ H s)(k:∀b u,s.heap.get? b=some u->h'.get? b=some u)
  (ho:∀b u,s.heap.get? b=some u->H' b=H b)(hx:∀b u,H b=some u->H' b=some u)(new:∀b o,H' b=some o->H b=some o\/bF X.prog X.w H' h' b o):Inv X aa σ H' {s with heap:=h',toks:=t'}:=
 I.un ⟨fun b o e _ _ _=>k b o e,fun b o e _ _ _=>⟨o.slots,k b o e⟩,fun b o e n _=>(ho b o e).trans n,fun b o e _=>⟨o,k b o e⟩,fun b xs e=>hx b _ e,fun b o u e=>hx b _ e,fun b ps e=>⟨#[],by rw[hx b _ e];simp⟩⟩ (I.hok.grow k hx new)
theorem mJ{scope:XQ}{env:Env}(EZ:∀y∈scope.names,y.2=.free->∃c,env.cells.lookup y.1=some c):
  ∃cl,closureFor scope env=pure cl/\(∀x c,cl.lookup x=some c->env.cells.lookup x=some c)/\∀y∈scope.names,y.2=.free->∃c,cl.lookup y.1=some c:=by
 have key:∀(l:List (Str×W8)) (cs:List (Str×Addr)),(∀y∈l,y.2=.free->∃c,env.cells.lookup y.1=some c)->(∀x c,cs.lookup x=some c->env.cells.lookup x=some c)->
   ∃cl,(forIn l cs (fun (x:Str×W8) (r:List (Str×Addr))=>(if (x.2==Yd)=true then do let c <-cellOf env x.1;pure (X5 ((x.1,c)::r)) else pure (X5 r):Sem (ForInStep (List (Str×Addr))))):Sem (List (Str×Addr)))=pure cl/\
    (∀x c,cl.lookup x=some c->env.cells.lookup x=some c)/\(∀y∈l,y.2=.free->∃c,cl.lookup y.1=some c)/\(∀x c,cs.lookup x=some c->∃c',cl.lookup x=some c'):=by
  intro l
  induction l with
  |nil=>intro cs _ h2;exact⟨cs,rfl,h2,fun y hy=>absurd hy (by simp),fun x c e=>⟨c,e⟩⟩
  |cons y l ih=>
   intro cs h1 h2;obtain⟨n,k⟩:=y;rw[VF];by_cases hk:k=.free
   ·subst hk;obtain⟨c,hc⟩:=h1 (n,.free) Za rfl;have e:cellOf env n=pure c:=by unfold cellOf;rw[hc]
    have h2':∀x c',((n,c)::cs).lookup x=some c'->env.cells.lookup x=some c':=by
     intro x c' q;rw[Yz]at q;cases hx:x==n with
     |true=>rw[hx]at q;have:=eq_of_beq hx;subst this;cases q;exact hc
     |false=>rw[hx]at q;exact h2 x c' q
    obtain⟨cl,q1,q2,q3,q4⟩:=ih ((n,c)::cs) (fun y hy=>h1 y (Zo _ hy)) h2';refine⟨cl,?_,q2,fun y hy hf=>?_,fun x c' q=>?_⟩
    ·rw[if_pos (by rfl),e]
     exact q1
    ·rcases Zz.mp hy with rfl|hy
     ·exact q4 n c (by simp[Yz])
     ·exact q3 y hy hf
    ·rcases hx:x==n with _|_
     ·exact q4 x c' (by rw[Yz,hx];exact q)
     ·exact q4 x c (by rw[Yz,hx])
   ·have hb:(k==Yd)=false:=by simpa using hk
    obtain⟨cl,q1,q2,q3,q4⟩:=ih cs (fun y hy=>h1 y (Zo _ hy)) h2;refine⟨cl,?_,q2,fun y hy hf=>?_,q4⟩
    ·rw[if_neg (by rw[hb];exact Zm)]
     exact q1
    ·rcases Zz.mp hy with rfl|hy
     ·exact absurd hf hk
     ·exact q3 y hy hf
 obtain⟨cl,q1,q2,q3,_⟩:=key scope.names [] EZ (fun x c e=>by simp at e)
 refine⟨cl,?_,q2,q3⟩;have e:closureFor scope env=(forIn scope.names ([]:List (Str×Addr)) (fun (x:Str×W8) (r:List (Str×Addr))=>(if (x.2==Yd)=true then do let c <-cellOf env x.1;pure (X5 ((x.1,c)::r)) else pure (X5 r):Sem (ForInStep (List (Str×Addr))))):Sem (List (Str×Addr)))>>=pure:=rfl
 rw[e,q1]
 rfl
theorem jh{env:Env}{k:W8}:∀{names:List (Str×W8)} {x:Str},names.lookup x=some k->k≠.local->
  (names.map fun (n,k)=>if (k==Yd&&env.scope.kind==.function&&env.kindOf n==some .cell) then (n,XH) else (n,k)).lookup x=some k\/
  (k=.free/\(names.map fun (n,k)=>if (k==Yd&&env.scope.kind==.function&&env.kindOf n==some .cell) then (n,XH) else (n,k)).lookup x=some .cell)
 | [],_,h,_=>by simp at h
 | (n,k')::r,x,h,hk=>by
  have ih:=@jh env k r x;show UL x ((if (k'==Yd&&env.scope.kind==.function&&env.kindOf n==some .cell)=true then (n,XH) else (n,k'))::_)=_\/_/\UL x ((if (k'==Yd&&env.scope.kind==.function&&env.kindOf n==some .cell)=true then (n,XH) else (n,k'))::_)=_
  cases hx:x==n with
  |true=>
   simp only[Yz,hx]at h;cases h;by_cases hc:(k==Yd&&env.scope.kind==.function&&env.kindOf n==some .cell)=true
   ·right;rw[if_pos hc];simp only[ZA]at hc;exact⟨by simpa using hc.1.1,by simp only[Yz,hx]⟩
   ·left;rw[if_neg hc];simp only[Yz,hx]
  |false=>
   simp only[Yz,hx]at h;by_cases hc:(k'==Yd&&env.scope.kind==.function&&env.kindOf n==some .cell)=true
   ·rw[if_pos hc];simp only[Yz,hx];exact ih h hk
   ·rw[if_neg hc];simp only[Yz,hx];exact ih h hk
theorem kz{env:Env}:∀{names:List (Str×W8)} {x:Str} {k:W8},(names.map fun (n,k)=>if (k==Yd&&env.scope.kind==.function&&env.kindOf n==some .cell) then (n,XH) else (n,k)).lookup x=some k->
  names.lookup x=some k\/(k=.cell/\names.lookup x=some .free)
 | [],_,_,h=>by simp at h
 | (n,k')::r,x,k,h=>by
  have ih:=@kz env r x k;have h:UL x ((if (k'==Yd&&env.scope.kind==.function&&env.kindOf n==some .cell)=true then (n,XH) else (n,k'))::(r.map fun (n,k)=>if (k==Yd&&env.scope.kind==.function&&env.kindOf n==some .cell) then (n,XH) else (n,k)))=some k:=h
  by_cases hc:(k'==Yd&&env.scope.kind==.function&&env.kindOf n==some .cell)=true
  ·rw[if_pos hc]at h;have hf:k'=.free:=by simp only[ZA]at hc;simpa using hc.1.1
   cases hx:x==n with
   |true=>simp only[Yz,hx]at h ⊢;cases h;right;exact⟨rfl,by rw[hf]⟩
   |false=>simp only[Yz,hx]at h ⊢;exact ih h
  ·rw[if_neg hc]at h;cases hx:x==n with
   |true=>simp only[Yz,hx]at h ⊢;exact .inl h
   |false=>simp only[Yz,hx]at h ⊢;exact ih h
theorem p_{prog:Zv}{w:Zl}{A:ZK}{R:VT->Shared->Prop}{s:Shared}{elt target iter:ZN}{ifs:List ZN}{scope:XQ}{pos:Pos}{it acc:Value}{env:Env}(I:Nat->Shared->Prop)
  (turn:∀n s,I n s->Zq (model prog w) A (pyNext it) (fun r s₁=>match r with
   |none=>R (.ok .next) s₁
   |some v=>Zq (model prog w) A (letOwnedTupleGo target it v) (fun _ s₀=>Zq (model prog w) A (assign target env v) (fun _ s₂=>
    Zq (model prog w) A (forIn ifs true fun c r=>if r=true then do let ok <-isTrue c env (eval c env);pure (X5 ok) else pure (X5 r)) (fun ok s₃=>
     if ok=true then Zq (model prog w) A (eval elt env) (fun x s₄=>
      Zq (model prog w) A (call (.builtin "list.append") [acc,x]) (fun _ s₅=>∃m,m<n/\I m s₅) (notedBy (model prog w) A env fun e s'=>R (.error e) s') s₄) (notedBy (model prog w) A env fun e s'=>R (.error e) s') s₃
     else ∃m,m<n/\I m s₃) (notedBy (model prog w) A env fun e s'=>R (.error e) s') s₂) (notedBy (model prog w) A env fun e s'=>R (.error e) s') s₀) (notedBy (model prog w) A env fun e s'=>R (.error e) s') s₁) (notedBy (model prog w) A env fun e s'=>R (.error e) s') s)
  (n:Nat)(h:I n s):
  Xd (model prog w) A (.compLoop (.ListComp elt [⟨target,iter,ifs,0⟩] scope pos) 0 it acc env) R s:=by
 refine codeAny_loop rfl I (fun n s hI=>?_) n h;show Zq _ A ((compTurn (.ListComp elt [⟨target,iter,ifs,0⟩] scope pos) 0 it acc env).onRaise (fun x=>do noteFrame x env;theTreesLotGoes x)) _ _ s
 refine wpAny_noted ?_;rw[compTurn_list];refine Z1 (TM (Z1 (Y0 (turn n s hI) (fun r s₁ h₁=>?_) fun _ _ h'=>h')));cases r with
 |none=>exact Z7 h₁
 |some v=>
  refine Z1 (Y0 h₁ (fun _ s₀ h₀=>?_) fun _ _ h'=>h');refine Z1 (Y0 h₀ (fun _ s₂ h₂=>Z1 (Y0 h₂ (fun ok s₃ h₃=>?_) fun _ _ h'=>h')) fun _ _ h'=>h');cases ok with
  |false=>exact Z7 ⟨rfl,h₃⟩
  |true=>
   exact Z1 (Z1 (Y0 h₃ (fun x s₄ h₄=>Z1 (Y0 h₄ (fun _ s₅ h₅=>Z7 (Z7 ⟨rfl,h₅⟩)) fun _ _ h'=>h')) fun _ _ h'=>h'))
noncomputable def PFs(X:Cx)(ifs:List ZN)(t:TT):Prop:=∀(aa:List (Addr×Obj)) (s:Shared) (σ:St) (H:Hp) (Q:Bool->Hp->Prop),Inv X aa σ H s->t σ H Q->
 Zq (model X.prog X.w) X.A (forIn ifs true fun c r=>if r=true then do let ok <-isTrue c X.env (eval c X.env);pure (X5 ok) else pure (X5 r)) (TP X aa σ Q) X.xe s
theorem bQ{X:Cx}:PFs X [] (fun _ H Q=>Q true H):=fun _ _ _ H _ I h=>wpAny_tests_nil ⟨H,I,h⟩
theorem fh{X:Cx}{c:ZN}{t:TT}(h:PT X c t):PFs X [c] t:=fun aa s σ H Q I q=>wpAny_tests_one (h aa s σ H Q I q)
noncomputable def bq(X:Cx)(scope:XQ)(N':List Str)(C:Addr)(cl:List (Str×Addr))(fp:List Addr)(aa:List (Addr×Obj))(s₂:Shared)(H₂:Hp):Cx:=
 {X with N:=N',s₀:=s₂,H₀:=H₂,env:=compEnvC scope cl C X.env,outer:=X.stack,stack:=X.stack,ex:=fp,fn:=fun _=>false,pn:=X.pn++aa,xe:=fun _ _=>False}
noncomputable def compσ(own:Nat)(ag:List Nat)(σ:St):St:=WV own none++ag.map fun j=>σ.getD j none
noncomputable def dh(own:Nat)(ag:List Nat)(σ σ2:St):Prop:=σ2.length=(compσ own ag σ).length/\∀(i:Nat) v,(compσ own ag σ)[i]?=some (some v)->σ2[i]?=some (some v)
theorem dC{own:Nat}{ag:List Nat}{σ:St}{i:Nat}{v:Option V}(h:i<own):dh own ag σ ((compσ own ag σ).set i v):=by
 refine⟨VG,fun j u e=>?_⟩;have ne:i≠j:=by
  rintro rfl;unfold compσ at e;rw[ZL (by simpa using h),X2,if_pos h]at e;cases e
 rw[Xo ne];exact e
theorem iL{own:Nat}{ag:List Nat}{σ:St}{i j:Nat}{v w:Option V}(h:i<own)(h':j<own):dh own ag σ (((compσ own ag σ).set i v).set j w):=by
 refine⟨by rw[VG,VG],fun k u e=>?_⟩
 have ne:j≠k:=by
  rintro rfl;unfold compσ at e;rw[ZL (by simpa using h'),X2,if_pos h']at e;cases e
 rw[Xo ne];exact (dC h).2 k u e
noncomputable def h_(wi:TI)(own:Nat)(ag:List Nat)(g:TG)(tt:TT)(te:TE):TE:=fun σ H Q=>wi σ H fun J H1=>∃(n:Nat) (W:Nat->List V->Hp->Prop),n<=sizeLine/\W 0 [] H1/\
 (∀ys H,W n ys H->J.stop n H/\∀D,H D=none->Q (.ref D) (upd H D (.lst ys)))/\
 ∀i ys H,i<n->W i ys H->J.go i H/\∀x H',J.yld i H x H'->g x (compσ own ag σ) H' fun σ2 H2=>dh own ag σ σ2/\tt σ2 H2 fun b H3=>if b=true then te σ2 H3 fun v H4=>W (i+1) (ys++[v]) H4 else W (i+1) ys H3
structure aO(X:Cx)(scope:XQ)(N':List Str)(own:Nat)(ag:List Nat):Prop where
 cell:∀y∈scope.names,y.2≠.cell
 kind:scope.kind=.function
 names:∀y∈scope.names,y.2=.local->scope.names.lookup y.1=some .local
 free:∀y∈scope.names,y.2=.free->X.env.kindOf y.1=some .cell\/X.env.kindOf y.1=some .free
 len:N'.length=own+ag.length
 cap:∀(i j:Nat) x,ag[i]?=some j->N'[own+i]?=some x->X.N[j]?=some x/\scope.names.lookup x=some .free
section
variable{X:Cx}{elt iter tg:ZN}{ifs:List ZN}{scope:XQ}{pos:Pos}{N':List Str}{own:Nat}{ag:List Nat}{wi:TI}{g:TG}{tt:TT}{te:TE}
theorem getD_σ{σ:St}{j:Nat}{v:V}(h:σ.getD j none=some v):σ[j]?=some (some v):=by
 rw[Z0]at h;cases q:σ[j]? with
 |none=>rw[q]at h;cases h
 |some o=>rw[q]at h;simp at h;rw[h]
theorem nO(hc:X.calm=true)(S:aO X scope N' own ag)
  (hB:∀C cl fp aa s₂ H₂,PG (bq X scope N' C cl fp aa s₂ H₂) tg g/\PFs (bq X scope N' C cl fp aa s₂ H₂) ifs tt/\PE (bq X scope N' C cl fp aa s₂ H₂) elt te)
  {cl:List (Str×Addr)}(Fc:∀x c,cl.lookup x=some c->X.env.cells.lookup x=some c)(FV:∀y∈scope.names,y.2=.free->∃c,cl.lookup y.1=some c)
  {aa:List (Addr×Obj)}{σ:St}{H2:Hp}{s2:Shared}{it:Addr}{fp:List Addr}{tn:Nat->ZF->Prop}{J:It}(I2:Inv X aa σ H2 s2)(T:ow X.prog X.w X.K tg J fp it tn)(Fd:tn 0 s2.heap)(f2:∀b∈fp,jb X aa H2 b)
  {n:Nat}{W:Nat->List V->Hp->Prop}(hn:n<=sizeLine)(w0:W 0 [] H2)
  (F3:∀i ys H,i<n->W i ys H->J.go i H/\∀x H',J.yld i H x H'->g x (compσ own ag σ) H' fun σ2 H2=>dh own ag σ σ2/\tt σ2 H2 fun b H3=>if b=true then te σ2 H3 fun v H4=>W (i+1) (ys++[v]) H4 else W (i+1) ys H3)
  (wstop:∀ys H,W n ys H->J.stop n H)
  {RR:Value->Addr->VT->Shared->Prop}
  (hRR:∀(D C:Addr) (s':Shared) (oC:Obj) (m:Str->Option Value) (ys:List V) (H':Hp),Inv X (aa++[(C,oC)]) σ (upd H' D (.lst ys)) s'->s'.heap.Ns C m->(X.s₀.heap.objs.size<=C)->(upd H' D (.lst ys)) C=none->C≠X.env.locals->(∀x c,X.env.cells.lookup x=some c->c≠C)->
   (∀p∈X.pn++aa,p.1≠C)->H' D=none->W n ys H'->RR (.ref D) C (.ok .next) s'){E:Value->Shared->Prop}:
  Zq (model X.prog X.w) X.A (newList []) (fun acc s₃=>Zq (model X.prog X.w) X.A (newFunctionEnv scope X.env.globals cl [] X.env.qual none .none (some X.env)) (fun cenv s₄=>
   Xd (model X.prog X.w) X.A (.compStart (.ListComp elt [⟨tg,iter,ifs,0⟩] scope pos) 0 (.ref it) acc {cenv with scope:=relabel scope X.env}) (RR acc cenv.locals) s₄) E s₃) E s2:=by
 refine XS (wpAny_newFunctionEnv S.cell (by intro y hy;simp at hy) (fun h₁ hns₁ hsb₁=>?_) S.kind)
 dsimp only at hns₁ hsb₁ ⊢;generalize hH2:s2.heap.push {cls:=.type "list",dict:=none,data:=.seq ([]:List Value).toArray}=G2 at hns₁ hsb₁ ⊢;have hC:G2.objs.size=s2.heap.objs.size+1:=by rw[<-hH2,Ys]
 generalize hCe:G2.objs.size=C at hns₁ hsb₁ hC ⊢;generalize hDe:s2.heap.objs.size=D at hC ⊢;have hDC:D≠C:=by rw[hC];exact Nat.ne_of_lt (Nat.lt_succ_self _)
 have below:∀b,b<D->b≠C/\b≠D:=fun b hb=>⟨by rw[hC];exact Nat.ne_of_lt (Nat.lt_succ_of_lt hb),Nat.ne_of_lt hb⟩
 have Eu:∀b o,s2.heap.get? b=some o->b<D:=fun b o e=>by rw[<-hDe];exact Z_ e
 have old:∀b o,s2.heap.get? b=some o->h₁.get? b=some o:=fun b o e=>hsb₁.extBut b o (below b (Eu b o e)).1 (Z8 _ (hH2 ▸ Z8 _ e));have hacc:h₁.PlainList D #[]:=⟨_,hsb₁.extBut _ _ hDC (Z8 _ (by rw[<-hH2,<-hDe];exact Zk _ rfl))⟩
 have fpl:∀b∈fp,b<D:=fun b hb=>by obtain⟨o,e,_⟩:=T.obj _ _ Fd b hb;exact Eu b o e
 have st₁:tn 0 h₁:=T.keep _ _ _ Fd fun b _ o e=>old b o e;have cellsOk:∀x c,cl.lookup x=some c->∃v,s2.heap.IsCell c v:=fun x c e=>I2.cell x c (Fc x c e);have Xok:(bq X scope N' C cl fp aa s2 H2).Ok:=by
  refine⟨I2.ok.mod,S.kind,I2.ok.glob,I2.ok.blt,?_,fun x y c h1 h2=>I2.ok.inj x y c (Fc x c h1) (Fc y c h2),fun x hx=>?_,fun x c h=>absurd h (by show ¬(false=true);decide),I2.ok.hd,I2.ok.frames,.inl rfl,fun b hb=>?_,I2.bs,?_,fun b o e hb=>?_,fun b hb=>?_,I2.stack,I2.stkFree⟩
  ·show s2.heap.objs.size<=C;rw[hDe,hC];exact Nat.le_succ _
  ·have hx':(relabel scope X.env).names.lookup x=some .cell\/(relabel scope X.env).names.lookup x=some .free:=hx;have hfx:scope.names.lookup x=some .free:=by
    rcases hx' with q|q
    ·rcases kz q with q|⟨_,q⟩
     ·exact absurd rfl (S.cell _ (ZR q))
     ·exact q
    ·rcases kz q with q|⟨e,_⟩
     ·exact q
     ·cases e
   exact FV _ (ZR hfx) rfl
  ·refine⟨(below b (fpl b hb)).1,fun x c e=>(f2 b hb).2.2.2.2.1 x c (Fc x c e)⟩
  ·exact Nat.le_trans I2.ok.bsz I2.sz
  ·obtain⟨_,_,_,q,_⟩:=f2 b hb;rcases q with q|q
   ·exact I2.ok.noex b o e q
   ·exact absurd (Nat.lt_of_lt_of_le (Z_ e) (Nat.le_trans I2.ok.bsz q)) (Nat.lt_irrefl _)
  ·intro z;rcases Zz.mp (I2.stkSub b z) with q|q
   ·exact (f2 b hb).2.1 q
   ·exact (f2 b hb).2.2.1 q
 have cne:∀x c,cl.lookup x=some c->c<D:=fun x c e=>by obtain⟨v,o,ho,_⟩:=cellsOk x c e;exact Eu c o ho
 have I₁:∀tk,Inv (bq X scope N' C cl fp aa s2 H2) [] (compσ own ag σ) H2 {s2 with heap:=h₁,toks:=tk}:=by
  intro tk;refine⟨Xok,rfl,I2.bare,Un.kept old,⟨_,hns₁,fun i x v h1 h2 h3=>?_⟩,fun x c e=>?_,I2.hok.fresh (by rw[hDe,hC];exact Nat.le_succ _),fun x c e=>I2.freeC x c (Fc x c e),fun p hp=>?_,I2.hok.kept old,?_⟩
  ·
   have h2':(compσ own ag σ)[i]?=some (some v):=h2;have h1':N'[i]?=some x:=h1;unfold compσ at h2';by_cases ci:i<own
   ·rw[ZL (by simpa using ci),X2,if_pos ci]at h2';cases h2'
   ·rw[Y1 (by simpa using ci),XI,Zn]at h2'
    cases cj:ag[i-own]? with
    |none=>rw[cj]at h2';cases h2'
    |some j=>
     rw[cj]at h2';have hv:=getD_σ (ZH h2');obtain⟨q1,q2⟩:=S.cap (i-own) j x cj (by rw[show own+(i-own)=i by lia];exact h1')
     have kx:=S.free _ (ZR q2) rfl;obtain⟨m,hm,hl⟩:=I2.loc;have vis:Vis X.env.scope x:=kx.elim (fun z=>.inr (.inl z)) fun z=>.inr (.inr z);obtain⟨u,ru,lk⟩:=hl j x v q1 hv vis;refine⟨u,ru,.inr ⟨?_,?_⟩⟩
     ·rcases jh (env:=X.env) q2 (by decide) with z|⟨_,z⟩
      ·exact .inr z
      ·exact .inl z
     ·rcases lk with ⟨z,_⟩|⟨_,c,hc',hcell⟩
      ·exact absurd z (by rcases kx with k|k<;>rw[k]<;>decide)
      ·obtain⟨c2,hc2⟩:=FV _ (ZR q2) rfl
       have:=Fc _ _ hc2
       rw[hc']at this;cases this;obtain⟨o,ho,hd⟩:=hcell;exact⟨c,hc2,o,old c o ho,hd⟩
  ·obtain⟨v,o,ho,hd⟩:=cellsOk x c e;exact⟨v,o,old c o ho,hd⟩
  ·have hp':p∈X.pn++aa:=by simpa [bq]using hp
   obtain⟨q1,q2,q3,q4,q5⟩:=I2.pin p hp';refine⟨old _ _ q1,q2,(below _ (Eu _ _ q1)).1,fun z=>?_,q5⟩;rcases Zz.mp (I2.stkSub p.1 z) with q|q
   ·exact q3 q
   ·exact q4 q
  ·show (compσ own ag σ).length=N'.length;unfold compσ;rw[Z5,XI,Z6,S.len]
 obtain⟨hg,ht,he⟩:=hB C cl fp aa s2 H2;have hD0:H2 D=none:=I2.hok.fresh (by rw[hDe];exact Nat.le_refl _)
 have dfs:D∉frs X.stack:=fun z=>by
  rcases Zz.mp (I2.stkSub D z) with q|q
  ·have:=I2.lt;rw[hDe,<-q]at this;exact Nat.lt_irrefl _ this
  ·exact I2.nofs (by rw[hDe];exact Nat.le_refl _) q
 have loop:∀s₃:Shared,s₃={s2 with heap:=h₁,toks:=s2.toks+([]:List (Str×Value)).length}->
   Xd (model X.prog X.w) X.A (.compLoop (.ListComp elt [⟨tg,iter,ifs,0⟩] scope pos) 0 (.ref it) (.ref D) (compEnvC scope cl C X.env)) (RR (.ref D) C) s₃:=by
  rintro s₃ rfl;refine p_ (fun k s'=>∃i ys H',k=n+1-i/\i<=n/\ys.length<=i/\Inv (bq X scope N' C cl fp aa s2 H2) [] (compσ own ag σ) H' s'/\tn i s'.heap/\(∀b∈fp,H' b=none)/\H' D=none/\(∃C',aR ys C'/\s'.heap.PlainList D C'.toArray)/\W i ys H') ?_ (n+1)
   ⟨0,[],H2,rfl,Nat.zero_le _,Nat.le_refl _,I₁ _,st₁,fun b hb=>(f2 b hb).1,hD0,⟨[],.nil,hacc⟩,w0⟩
  rintro k s' ⟨i,ys,H',rfl,hi,hyl,I',st',fr',hDn,⟨C',rv,EC⟩,w'⟩;have noE:∀{Q':Value->Shared->Prop} (e:Value) (EX:Shared),False->Q' e EX:=fun _ _ z=>z.elim;obtain⟨nD,hDo⟩:=EC;have pinD:∀{σ1:St} {H1:Hp} {s1:Shared},Inv (bq X scope N' C cl fp aa s2 H2) [] σ1 H1 s1->s1.heap.get? D=some {cls:=.type "list",data:=.seq C'.toArray nD}->H1 D=none->
    Inv (bq X scope N' C cl fp aa s2 H2) [(D,{cls:=.type "list",data:=.seq C'.toArray nD})] σ1 H1 s1:=fun I1 e1 e2=>
   I1.pins_of fun p hp=>by
    have e:p=(D,{cls:=.type "list",data:=.seq C'.toArray nD}):=Zj.mp hp;subst e;exact⟨e1,e2,hDC,dfs,fun v z=>by cases z⟩
  have stat:∀{H1:Hp},(∀b∈fp,H1 b=none)->∀b∈fp,jb (bq X scope N' C cl fp aa s2 H2) [(D,{cls:=.type "list",data:=.seq C'.toArray nD})] H1 b:=fun hn' b hb=>by
   refine⟨hn' b hb,(below b (fpl b hb)).1,fun z=>?_,.inl hb,fun x c e=>(f2 b hb).2.2.2.2.1 x c (Fc x c e),fun p hp=>?_⟩
   ·rcases Zz.mp (I2.stkSub b z) with q|q
    ·exact (f2 b hb).2.1 q
    ·exact (f2 b hb).2.2.1 q
   ·rcases ZE.mp hp with q|q
    ·exact (f2 b hb).2.2.2.2.2 p q
    ·have e:p=(D,{cls:=.type "list",data:=.seq C'.toArray nD}):=Zj.mp q;subst e;exact fun z=>(below b (fpl b hb)).2 z.symm
  have Ip:=pinD I' hDo hDn;by_cases hlt':i<n
  ·obtain⟨go,step⟩:=F3 i ys H' hlt' w';refine Y0 (T.item (bq X scope N' C cl fp aa s2 H2) rfl rfl rfl hc i _ s' _ H' (fun _ _=>False) Ip (stat fr') st' go) (fun r s4 zz=>?_) noE;obtain⟨u,hr,h4⟩:=zz;subst hr;refine Y0 h4 (fun _ s5 zz=>?_) noE;obtain⟨x,H5,I5,r5,y5,st5,fr5⟩:=zz;have I5':=I5.pinned (stat fr5) (T.obj _ _ st5);refine Y0 (hg _ s5 _ H5 x u _ I5' r5 (step x H5 y5)) (fun _ s6 zz=>?_) noE;obtain⟨σ6,H6,I6,kc,q6⟩:=zz;refine Y0 (ht _ s6 σ6 H6 _ I6 q6) (fun b s7 zz=>?_) noE;obtain⟨H7,I7,q7⟩:=zz;have back:∀{H8:Hp} {s8:Shared},Inv (bq X scope N' C cl fp aa s2 H2) ([(D,{cls:=.type "list",data:=.seq C'.toArray nD})]++kK fp s5.heap) σ6 H8 s8->
     Inv (bq X scope N' C cl fp aa s2 H2) [] (compσ own ag σ) H8 s8/\tn (i+1) s8.heap/\(∀b∈fp,H8 b=none)/\H8 D=none/\s8.heap.get? D=some {cls:=.type "list",data:=.seq C'.toArray nD}:=fun {H8 s8} I8=>by
    have pD:=I8.pin (D,{cls:=.type "list",data:=.seq C'.toArray nD}) (ZB _ (XT _ (Zj.mpr rfl)));have pF:∀b∈fp,∀o,s5.heap.get? b=some o->s8.heap.get? b=some o/\H8 b=none:=fun b hb o e=>
     have q:=I8.pin (b,o) (ZB _ (ZB _ (jS hb e)))
     ⟨q.1,q.2.1⟩
    refine⟨?_,T.keep _ _ _ st5 fun b hb o e=>(pF b hb o e).1,fun b hb=>?_,pD.2.1,pD.1⟩
    ·have I9:Inv (bq X scope N' C cl fp aa s2 H2) [] σ6 H8 s8:=I8.pins_of fun p hp=>absurd hp (by simp)
     exact I9.weak kc.1.symm kc.2
    ·obtain⟨o,e,_⟩:=T.obj _ _ st5 b hb;exact (pF b hb o e).2
   cases b with
   |false=>
    simp only[Zw,if_false]at q7 ⊢;obtain⟨J1,J2,J3,J4,J5⟩:=back I7;exact⟨n+1-(i+1),by lia,i+1,ys,H7,rfl,hlt',by lia,J1,J2,J3,J4,⟨C',rv,nD,J5⟩,q7⟩
   |true=>
    simp only[XR]at q7 ⊢;refine Y0 (he _ s7 σ6 H7 _ I7 q7) (fun y s8 zz=>?_) noE;obtain⟨v,H8,I8,r8,q8⟩:=zz;obtain⟨J1,J2,J3,J4,J5⟩:=back I8;have hlen:=rv.length;refine wpAny_list_append_plain ⟨nD,J5⟩ (fun h9 hpl9 hsb9=>?_) (by rw[Zs];lia)
    refine⟨n+1-(i+1),by lia,i+1,ys++[v],H8,rfl,hlt',by rw[Z5,YS];lia,?_,T.keep _ _ _ J2 fun b hb o e=>hsb9.extBut b o (below b (fpl b hb)).2 e,J3,J4,⟨C'++[y],rv.append (.cons r8 .nil),?_⟩,q8⟩
    ·refine J1.turned (t':=s8.toks) (it:=D) (fun b o hb e=>hsb9.extBut b o hb e) J4 hDC (.inr ?_) (fun x c e=>Nat.ne_of_lt (cne x c e)) (fun p hp=>?_)
     ·show s2.heap.objs.size<=D;rw[hDe];exact Nat.le_refl _
     ·have hp':p∈X.pn++aa:=by simpa [bq]using hp
      exact Nat.ne_of_lt (Eu _ _ (I2.pin p hp').1)
    ·have e:(C'++[y]).toArray=C'.toArray.push y:=by simp
     rw[e];exact hpl9
  ·have hin:i=n:=by lia
   subst hin;refine Y0 (T.done (bq X scope N' C cl fp aa s2 H2) rfl rfl rfl hc i _ s' _ H' (fun _ _=>False) Ip (stat fr') st' (wstop ys H' w')) (fun r s4 zz=>?_) noE;obtain⟨hr,I4⟩:=zz;subst hr;have pD:=I4.pin (D,{cls:=.type "list",data:=.seq C'.toArray nD}) (ZB _ (Zj.mpr rfl));obtain⟨m,hm,_⟩:=I4.loc;obtain⟨oC,es,ep,hoC,hdC,hrest⟩:=id hm;have hCn:H' C=none:=I4.free;have hlen:=rv.length;have u1:Un (frs X.stack) fp H2 H' s2.heap s4.heap:=I4.base;have okL:bF X.prog X.w (upd H' D (.lst ys)) s4.heap D (.lst ys):=⟨by lia,C',nD,rv,pD.1⟩
   have hokL:HOk X.prog X.w (upd H' D (.lst ys)) s4.heap:=fun b o e=>by
    by_cases hb:b=D
    ·subst hb;rw[aj]at e;cases e;exact okL
    ·rw[aG hb]at e;exact (I4.hok b o e).stay (fun c v _ q=>q) (fun c q=>by rw[aG (a9 q hDn)];exact q) fun c xs q=>by rw[aG (a9 q hDn)];exact q
   have I5:Inv X aa σ (upd H' D (.lst ys)) s4:=by
    refine I2.call' (ch:=fp) I4.os ⟨u1.keep,u1.slot,fun b o e n' hb=>?_,u1.there,fun b xs e=>?_,fun b o u e=>?_,fun b ps e=>?_⟩ hokL I4.bare fun b hb=>⟨(f2 b hb).2.2.2.1,(f2 b hb).2.1,(f2 b hb).2.2.2.2.1,(f2 b hb).2.2.2.2.2⟩
    ·rw[aG (Nat.ne_of_lt (Eu b o e))];exact u1.free b o e n' hb
    ·rw[aG (a9 e hD0)];exact u1.tups b xs e
    ·rw[aG (a9 e hD0)];exact u1.frzs b o u e
    ·rw[aG (a9 e hD0)];exact u1.tbls b ps e
   have Cge:s2.heap.objs.size<=C:=by rw[hDe,hC];exact Nat.le_succ _
   have CL:C≠X.env.locals:=Nat.ne_of_gt (Nat.lt_of_lt_of_le I2.lt Cge);have Cu:(upd H' D (.lst ys)) C=none:=by rw[aG (Ne.symm hDC)];exact hCn
   have CF:C∉X.fs:=I2.nofs Cge;refine hRR D C s4 oC m ys H' ?_ hm (Nat.le_trans I2.sz Cge) Cu CL (fun x c e=>?_) (fun p hp=>?_) hDn w'
   ·refine I5.pins_of fun p hp=>?_;rcases ZE.mp hp with q|q
    ·exact I5.pin p (ZB _ q)
    ·have e:p=(C,oC):=Zj.mp q;subst e;exact⟨hoC,Cu,CL,CF,fun v z=>by rw[hdC]at z;cases z⟩
   ·obtain⟨v,q⟩:=I2.cell x c e;exact Nat.ne_of_lt (Nat.lt_of_lt_of_le q.lt Cge)
   ·exact Nat.ne_of_lt (Nat.lt_of_lt_of_le (Z_ (I2.pin p hp).1) Cge)
 exact codeAny_compStart_list (loop _ rfl) (T.self _ _ _ _ _ st₁ (loop _ rfl))
theorem A5(hc:X.calm=true)(S:aO X scope N' own ag)(hi:PI X tg iter wi)
  (hB:∀C cl fp aa s₂ H₂,PG (bq X scope N' C cl fp aa s₂ H₂) tg g/\PFs (bq X scope N' C cl fp aa s₂ H₂) ifs tt/\PE (bq X scope N' C cl fp aa s₂ H₂) elt te)
  (hs:∀x,foldedSetIterable iter X.env x=pure x:=by intro _;rfl):PE X (.ListComp elt [⟨tg,iter,ifs,0⟩] scope pos) (h_ wi own ag g tt te):=by
 intro aa s σ H Q I h;obtain⟨cl,q1,q2,q3⟩:=mJ (scope:=scope) (env:=X.env) (fun y hy hf=>I.ok.has y.1 (S.free y hy hf));rw[eval_ListComp];refine Vw (use:=none) rfl hs q1 S.kind S.names (thn (hi aa s σ H _ I h) fun v s1 h1=>thn h1 fun G7 s2 h2=>?_);obtain⟨it,fp,tn,J,H2,e,I2,T,Fd,f2,n,W,hn,w0,wend,F3⟩:=h2;subst e;refine nO hc S hB q2 q3 I2 T Fd f2 hn w0 F3 (fun ys H w=>(wend ys H w).1) ?_;intro D C s' oC m ys H' IC hm h1 h2 h3 h4 h5 hD w;refine⟨m,hm,fun h' hs'=>?_⟩;have I0:Inv X aa σ (upd H' D (.lst ys)) s':=IC.unpinned;exact⟨.ref D,_,I0.turned (t':=s'.toks) (it:=C) (fun b o hb e=>hs'.extBut b o hb e) h2 h3 (.inr h1) h4 h5,rfl,(wend ys H' w).2 D hD⟩
theorem wy{i:Nat}{y:Str}{py Fq:Pos}(hc:X.calm=true)(S:aO X scope N' own ag)(hN:X.N.Nodup)(Gf:X.N[i]?=some y)(hy:Loc X.env.scope y)(hi:PI X tg iter wi)
  (hB:∀C cl fp aa s₂ H₂,PG (bq X scope N' C cl fp aa s₂ H₂) tg g/\PFs (bq X scope N' C cl fp aa s₂ H₂) ifs tt/\PE (bq X scope N' C cl fp aa s₂ H₂) elt te)
  (FX:swapsWith (.ListComp elt [⟨tg,iter,ifs,0⟩] scope pos) (some (.Name y py)) Fq.line X.env=pure true:=by rfl)
  (hf:X.fn y=true\/X.env.scope.names.lookup y=some .local:=by first|exact .inl rfl|exact .inr rfl|assumption)
  (hs:∀x,foldedSetIterable iter X.env x=pure x:=by intro _;rfl):PS X (.Assign [.Name y py] (.ListComp elt [⟨tg,iter,ifs,0⟩] scope pos) Fq) (me (h_ wi own ag g tt te) (dX i)):=by
 intro aa s σ H Dd I h;obtain⟨cl,q1,q2,q3⟩:=mJ (scope:=scope) (env:=X.env) (fun y hy hf=>I.ok.has y.1 (S.free y hy hf));rw[exec_Assign_Name_used _ _ _ _ FX];refine Z1 (TM (Z1 ?_));show Zq _ X.A (do let _ <-comprehension (.ListComp elt [⟨tg,iter,ifs,0⟩] scope pos) scope X.env _ (newList []) false (eval iter X.env) (some (assign (.Name y py) X.env))) _ _ s
 refine Z1 (Y0 (Vw (use:=some (assign (.Name y py) X.env)) (Q:=fun _ s'=>SP X aa Dd .next s') rfl hs q1 S.kind S.names
  (thn (hi aa s σ H _ I h) fun v s1 h1=>thn h1 fun G7 s2 h2=>?_)) (fun _ s' hq=>Z7 (Z7 hq)) fun _ _ e=>e)
 obtain⟨it,fp,tn,J,H2,e,I2,T,Fd,f2,n,W,hn,w0,wend,F3⟩:=h2;subst e;refine nO hc S hB q2 q3 I2 T Fd f2 hn w0 F3 (fun ys H w=>(wend ys H w).1) ?_;intro D C s' oC m ys H' IC hm h1 h2 h3 h4 h5 hD w;show Zq _ X.A (assign (.Name y py) X.env (.ref D)) _ _ _;refine Ui (jI IC hN Gf hy (v:=.ref D) rfl (fun EX I''=>?_) hf);have pC:=I''.pin (C,oC) (ZB _ (ZB _ (Zj.mpr rfl)));have pC0:=IC.pin (C,oC) (ZB _ (ZB _ (Zj.mpr rfl)));have hm'':EX.heap.Ns C m:=by
  obtain⟨o,es,ep,ho,r⟩:=hm;rw[pC0.1]at ho;cases ho;exact⟨oC,es,ep,pC.1,r⟩
 refine⟨m,hm'',fun h' hs'=>?_⟩;have I0:Inv X aa (σ.set i (some (.ref D))) (upd H' D (.lst ys)) EX:=I''.unpinned;exact⟨_,_,I0.turned (t':=EX.toks) (it:=C) (fun b o hb e=>hs'.extBut b o hb e) h2 h3 (.inr h1) h4 h5,(wend ys H' w).2 D hD⟩
end
end L2
end
section
namespace L2
open PySem PySem.Spec PyProof.Rows
section
variable{X:Cx}
theorem uL{k:Int}(h1:-(2^1000)<k)(h2:k<2^1000):U_ k<=2^20:=by
 unfold U_
 split
 ·exact Nat.zero_le _
 ·have hn:k.natAbs<2^1000:=by
   have e:((2:Int)^1000)=((2^1000:Nat):Int):=by norm_cast
   rw[e]at h1 h2;lia
  have:k.natAbs.log2<1000:=by
   rcases Nat.eq_zero_or_pos k.natAbs with h0|hp
   ·rw[h0];decide
   ·exact (Nat.log2_lt (by lia)).mpr hn
  have h20:(2:Nat)^20=1048576:=by decide
  lia
noncomputable def Big(i:Int):Prop:=-(2^1000)<i/\i<2^1000
noncomputable def Dn(i j:Int):Prop:=Big i/\Big j
theorem fH:OpR X (binaryOp .Mult) (rI Dn fun i j=>.int (i*j)):=opI fun _ _ _ _ _ _ _ hc q=>mul_int q (.of_bits (uL hc.1.1 hc.1.2) (uL hc.2.1 hc.2.2))
noncomputable def za(K:Z3)(t:TA):TE:=fun σ H Q=>t σ H fun vs H1=>∃a b xs ys,vs=[.ref a,.ref b]/\SqL K H1 a xs/\SqL K H1 b ys/\xs.length=ys.length/\
 ∀(ts:Nat->Addr) (l:Addr) (H':Hp),au H1 H'->(∀(j:Nat) x y,xs[j]?=some x->ys[j]?=some y->H' (ts j)=some (.tup [x,y]))->H' l=some (.lst ((Z4 xs.length).map fun j=>.ref (ts j)))->Q (.ref l) H'
theorem ve{n:Nat}{f:Nat->V}{acc:Array Value}(hs:acc.size=n)(h:∀j,j<n->∃u,acc[j]?=some u/\RelV (f j) u):aR ((Z4 n).map f) acc.toList:=by
 have key:∀(l:List Value) (m k:Nat),l.length=m->(∀j,j<m->∃u,l[j]?=some u/\RelV (f (k+j)) u)->aR ((V9 k m).map f) l:=by
  intro l
  induction l with
  |nil=>intro m k hm _;subst hm;exact .nil
  |cons u l ih=>
   intro m k hm hj;subst hm;rw[Zg,Vk,Y5];obtain⟨u',e,r⟩:=hj 0 (by simp)
   have e':u=u':=by simpa using e
   subst e';refine .cons (by simpa using r) (ih _ _ rfl fun j hj'=>?_)
   obtain⟨u2,e2,r2⟩:=hj (j+1) (by simpa using hj')
   exact⟨u2,by simpa using e2,by rw[show k+1+j=k+(j+1) by lia];exact r2⟩
 rw[U2];refine key acc.toList n 0 (by simpa using hs) fun j hj=>?_
 obtain⟨u,e,r⟩:=h j hj;exact⟨u,by rw[Y4];exact e,by rw[Nat.zero_add];exact r⟩
theorem vA{a b:ZN}{t:TA}{p p2 pos EI:Pos}(hc:X.calm=true)(Gg:Gl X "list")(Gh:X.mg "list" = none)(Gi:Gl X "zip")(Gj:X.mg "zip" = none)(ha:PA X [a,b] t)
  (hs:Zp [a,b] X.env=(false,eval a X.env)::Zp [b] X.env:=by rfl)(Fv:(backTo EI (Zp [b] X.env)).any (·.1)=false:=by rfl)
  (hz:Zp [.Call (.Name "zip" p2) [a,b] [] EI] X.env=[(false,eval (.Call (.Name "zip" p2) [a,b] [] EI) X.env)]:=by rfl):
  PE X (.Call (.Name "list" p) [.Call (.Name "zip" p2) [a,b] [] EI] [] pos) (za X.K t):=by
 intro aa s σ H Q I h;refine Yh (fG I Gg Gh boot_list ?_);refine ZV ?_ hz rfl;rw[hz];show Zq _ _ (spliced ((false,eval (.Call (.Name "zip" p2) [a,b] [] EI) X.env)::[])) _ _ s;refine WT ?_;refine Yh (fG I Gi Gj boot_zip ?_);refine ZV (thn (ha EI aa s σ H _ I h) fun us s1 zz=>?_) hs Fv;obtain⟨vs,H1,I1,r1,q1⟩:=zz;obtain⟨a',b',xs,ys,rfl,hx,hy,hl,q⟩:=q1;obtain⟨u,v,rfl,ra,rb⟩:=vals2 r1;cases ra;cases rb;obtain⟨ix,rx,px,zx⟩:=I1.list hx;obtain⟨iy,ry,py,zy⟩:=I1.list hy;have lx:=rx.length;have ly:=ry.length;refine thn (FS.qh (I1.ok.hd hc) px.isList py.isList (by simp only[Zs];lia) (by simp only[Zs];lia) fun h' acc S N c kp hS hSN eS az ac=>?_) fun v s2 hv=>V7 hv
 have asz:acc.size=xs.length:=by rw[az,Zs,<-lx]
 have item:∀(j:Nat) x y,xs[j]?=some x->ys[j]?=some y->∃u v,RelV x u/\RelV y v/\acc[j]?=some (.ref (N+j))/\Xy h' (N+j) u v:=by
  intro j x y ex ey;obtain⟨u,eu,ru⟩:=rx.get ex;obtain⟨v,ev,rv⟩:=ry.get ey;have hj:j<ix.toArray.size:=by rw[Zs];exact (Zh.mp eu).1
  obtain⟨x',y',e1,e2,e3,e4⟩:=ac j hj;rw[Yy,eu]at e1;rw[Yy,ev]at e2;cases e1;cases e2;exact⟨u,v,ru,rv,e3,e4⟩
 let Hn:Hp:=fun (b:Nat)=>if b=S then some (.lst ((Z4 xs.length).map fun j=>.ref (N+j))) else if N<=b/\b<N+xs.length then
  (match xs[b-N]?,ys[b-N]? with|some x,some y=>some (.tup [x,y])|_,_=>none) else H1 b
 have EM:∀b u,s1.heap.get? b=some u->Hn b=H1 b:=fun (b:Nat) u e=>by
  have:b<s1.heap.objs.size:=Z_ e
  show (if b=S then _ else _)=_
  rw[if_neg (by lia),if_neg (by lia)]
 have hold:∀b u,H1 b=some u->Hn b=some u:=fun (b:Nat) u e=>by
  have:b<s1.heap.objs.size:=I1.hok.lt e
  show (if b=S then _ else _)=_
  rw[if_neg (by lia),if_neg (by lia)];exact e
 have hS':Hn S=some (.lst ((Z4 xs.length).map fun j=>.ref (N+j))):=by
  show (if S=S then _ else _)=_
  rw[if_pos rfl]
 have Fw:∀(j:Nat) x y,xs[j]?=some x->ys[j]?=some y->Hn (N+j)=some (.tup [x,y]):=by
  intro j x y ex ey;have hj:j<xs.length:=(Zh.mp ex).1;show (if N+j=S then _ else _)=_
  rw[if_neg (by lia),if_pos (by lia),show N+j-N=j by lia,ex,ey]
 refine⟨.ref S,Hn,I1.grow (t':=s1.toks) kp EM hold ?_,rfl,q (fun j=>N+j) S Hn (fun b u e=>hold b u e) Fw hS'⟩;intro (b:Nat) o e;have e0:(if (b:Nat)=S then some (.lst ((Z4 xs.length).map fun j=>.ref (N+j))) else if N<=b/\b<N+xs.length then
  (match xs[(b:Nat)-N]?,ys[(b:Nat)-N]? with|some x,some y=>some (.tup [x,y])|_,_=>none) else H1 b)=some o:=e
 by_cases c1:(b:Nat)=S
 ·right;rw[if_pos c1]at e0;cases e0;refine⟨by rw[Z6,Zd];lia,acc.toList,c,ve asz fun j hj=>?_,by rw[c1];exact eS⟩
  have ex:xs[j]?=some xs[j]:=Z2 hj;have ey:ys[j]?=some (ys[j]'(by lia)):=Z2 (by lia)
  obtain⟨u,v,_,_,e3,_⟩:=item j _ _ ex ey;exact⟨_,e3,rfl⟩
 ·rw[if_neg c1]at e0;by_cases c2:N<=(b:Nat)/\(b:Nat)<N+xs.length
  ·right;rw[if_pos c2]at e0;have ex:xs[(b:Nat)-N]?=some (xs[(b:Nat)-N]'(by lia)):=Z2 (by lia)
   have ey:ys[(b:Nat)-N]?=some (ys[(b:Nat)-N]'(by lia)):=Z2 (by lia)
   rw[ex,ey]at e0;cases e0;obtain⟨u,v,ru,rv,e3,e4⟩:=item _ _ _ ex ey;rw[show N+((b:Nat)-N)=b by lia]at e4
   exact⟨by show 2<=sizeLine;decide,[u,v],.cons ru (.cons rv .nil),⟨_,e4,rfl,_,rfl⟩⟩
  ·left;rw[if_neg c2]at e0;exact e0
noncomputable def sN(K:Z3)(t:TA):TE:=fun σ H Q=>t σ H fun vs H1=>∃a xs,vs=[.ref a]/\SqL K H1 a xs/\∀l,H1 l=none->Q (.ref l) (upd H1 l (.lst xs.reverse))
theorem zb{xs:List V}{C':List Value}{acc:Array Value}(r:aR xs C')(hs:acc.size=C'.length)(h:∀(j:Nat) v,acc[j]?=some v->C'[C'.length-1-j]?=some v):aR xs.reverse acc.toList:=by
 have e:acc.toList=C'.reverse:=by
  apply X4;intro j;by_cases c:j<C'.length
  ·have hj:j<acc.size:=by lia
   have e1:=h j _ (Zb hj);rw[Y4,Zb hj,XM c,e1]
  ·rw[ZO (by rw[ZG];lia),ZO (by rw[Ze];lia)]
 rw[e];exact aR.reverse r
theorem ic{a:ZN}{t:TA}{p p2 pos EI:Pos}(hc:X.calm=true)(Gg:Gl X "list")(Gh:X.mg "list" = none)(Gi:Gl X "reversed")(Gj:X.mg "reversed" = none)(ha:PA X [a] t)
  (hs:Zp [a] X.env=(false,eval a X.env)::Zp [] X.env:=by rfl)(Fv:(backTo EI (Zp [] X.env)).any (·.1)=false:=by rfl)
  (hz:Zp [.Call (.Name "reversed" p2) [a] [] EI] X.env=[(false,eval (.Call (.Name "reversed" p2) [a] [] EI) X.env)]:=by rfl):
  PE X (.Call (.Name "list" p) [.Call (.Name "reversed" p2) [a] [] EI] [] pos) (sN X.K t):=by
 intro aa s σ H Q I h;refine Yh (fG I Gg Gh boot_list ?_);refine ZV ?_ hz rfl;rw[hz];show Zq _ _ (spliced ((false,eval (.Call (.Name "reversed" p2) [a] [] EI) X.env)::[])) _ _ s;refine WT ?_;refine Yh (fG I Gi Gj boot_reversed ?_);refine ZV (thn (ha EI aa s σ H _ I h) fun us s1 zz=>?_) hs Fv;obtain⟨vs,H1,I1,r1,q1⟩:=zz;obtain⟨a',xs,rfl,hx,q⟩:=q1;obtain⟨u,rfl,ra⟩:=vals1 r1;cases ra;obtain⟨ix,rx,px,zx⟩:=I1.list hx;have lx:=rx.length;have alt:a'<s1.heap.objs.size:=by obtain⟨o,ho,_⟩:=px.isList;exact Z_ ho
 refine call_reversed_list px.isList (V7 ?_);have kp:∀b u,s1.heap.get? b=some u->(s1.heap.push (revObj a' ((ix.toArray.size:Int)-1))).get? b=some u:=fun b u e=>Z8 _ e;refine FS.qf (s:={s1 with heap:=s1.heap.push (revObj a' ((ix.toArray.size:Int)-1))}) (I:=s1.heap.objs.size) (l:=a') (items:=ix.toArray) (I1.ok.hd hc) (Nat.ne_of_lt alt) ⟨_,Zk _ rfl,rfl,rfl⟩ (px.isList.push _) (by simp only[Zs];lia) fun h' tk acc c kp2 eS az ac=>?_
 have sz:(s1.heap.push (revObj a' ((ix.toArray.size:Int)-1))).objs.size=s1.heap.objs.size+1:=Ys ..;have kept:∀b u,s1.heap.get? b=some u->h'.get? b=some u:=fun b u e=>kp2 b u (Nat.ne_of_lt (Z_ e)) (kp b u e);show EP X aa σ Q (.ref (s1.heap.push (revObj a' ((ix.toArray.size:Int)-1))).objs.size) _;have eS':h'.get? (s1.heap.push (revObj a' ((ix.toArray.size:Int)-1))).objs.size=some {cls:=.type "list",dict:=none,data:=.seq acc c,slots:=#[]}:=eS;rw[sz]at eS' ⊢;have EZ:H1 (s1.heap.objs.size+1)=none:=I1.hok.fresh (Nat.le_succ _);refine⟨.ref (s1.heap.objs.size+1),_,I1.laid (a:=s1.heap.objs.size+1) (o:=.lst xs.reverse) (t':=tk) kept (Nat.le_succ _) ?_,rfl,q _ EZ⟩;have az':acc.size=ix.toArray.size:=az;refine⟨by rw[Ze];exact zx,acc.toList,c,zb rx (by rw[az',Zs]) fun j v e=>?_,eS'⟩
 have:=ac j v e
 rw[Yy,Zs]at this;exact this
end
end L2
end
section
namespace L2
open PySem PySem.Spec PyProof.Rows
set_option exponentiation.threshold 2000 in
theorem A9:((10:Int)^100)<2^1000:=by decide +kernel
theorem bv{i:Int}(h1:-(10^100)<=i)(h2:i<=10^100):Big i:=by
 have:=A9
 unfold Big;generalize (2:Int)^1000=z at *
 generalize (10:Int)^100=y at *
 lia
section
variable{X:Cx}
noncomputable def vK(a:Addr)(n:Nat):HO:=.ext fun h=>∃o es ep t,h.get? a=some o/\o.ExactSet/\o.data=.set es ep t/\t.fits es.size=true/\es.size=n/\n<=14
theorem B2{aa:List (Addr×Obj)}{σ:St}{H:Hp}{s:Shared}{a:Addr}{x y:Int}(I:Inv X aa σ H s)(h:H a=some (.tup [.int x,.int y])):Yw (ZP X.prog X.w) s.heap [x,y] a:=by
 obtain⟨_,C',r,o,ho,hc,n,hd⟩:=I.hok a _ h;cases r with
 |cons r1 r=>
  cases r with
  |cons r2 r=>
   cases r;obtain⟨t1,rfl⟩:=r1;obtain⟨t2,rfl⟩:=r2;exact⟨o,_,n,ho,hc,hd,.cons (Va _ _ _ _) (.cons (Va _ _ _ _) .nil)⟩
theorem qO(hc:X.calm=true)(hu:X.A.units+20<cLine):dy X (.type "set") (fun xs H Q=>∃(p:Addr) (rf:Nat->Addr) (px py:Nat->Int) (n:Nat),xs=[.ref p]/\SqL X.K H p ((Z4 n).map fun i=>.ref (rf i))/\n<=14/\
  (∀i,i<n->H (rf i)=some (.tup [.int (px i),.int (py i)]))/\∀l,H l=none->Q (.ref l) (upd H l (vK l (FS.eK (fun i=>[px i,py i]) n)))):=by
 intro aa s σ H xs us Q I r h;obtain⟨p,rf,px,py,n,rfl,hq,hn,ht,q⟩:=h;obtain⟨u,rfl,ra⟩:=vals1 r;cases ra;obtain⟨C',rv,pl,hz⟩:=I.list hq;have hl:=rv.length;rw[Z6,Zd]at hl;have sz:C'.toArray.size=n:=by rw[Zs];lia
 refine FS.nc (key:=fun i=>[px i,py i]) (rf:=rf) (I.ok.hd hc) hu pl.isList (by lia) ?_ ?_ ?_
 ·intro i v e;rw[Yy]at e;have hi:i<n:=by have:=(Zh.mp e).1;lia
  have e1:((Z4 n).map fun i=>V.ref (rf i))[i]?=some (.ref (rf i)):=by rw[Zn,YR hi];rfl
  obtain⟨u,eu,ru⟩:=rv.get e1;rw[e]at eu;cases eu;exact ru
 ·intro i hi;exact B2 I (ht i (by lia))
 ·intro h' tk hH kp;have kept:∀b o,s.heap.get? b=some o->h'.get? b=some o:=fun b o e=>kp b o (Z_ e) e;have hf:H s.heap.objs.size=none:=I.hok.fresh (Nat.le_refl _);refine⟨.ref s.heap.objs.size,_,I.laid (o:=vK s.heap.objs.size (FS.eK (fun i=>[px i,py i]) n)) (t':=tk) kept (Nat.le_refl _) ?_,rfl,q _ hf⟩;obtain⟨o,es,ep,t,T,_,hsz,_⟩:=hH;rw[sz]at hsz;have dl:=FS.j9 (fun i=>[px i,py i]) n;refine⟨⟨o,es,ep,t,T.ho,T.ex,T.hd,T.fits,hsz,by lia⟩,⟨o,T.ho⟩,?_⟩
  rintro h1 h2 ⟨o,es,ep,t,e,r⟩ k;exact⟨o,es,ep,t,k o e,r⟩
theorem qe:dy X (.builtin "len") (fun xs H Q=>∃p n,xs=[.ref p]/\H p=some (vK p n)/\Q (.int n) H):=by
 intro aa s σ H xs us Q I r h;obtain⟨p,n,rfl,hp,q⟩:=h;obtain⟨u,rfl,ra⟩:=vals1 r;cases ra;obtain⟨⟨o,es,ep,t,e,ex,hd,hf,hs,hn⟩,_⟩:=I.hok p _ hp;refine call_len_set e ex hd hf (by lia) ?_
 rw[hs];exact⟨.int n,H,I.tok _,⟨_,rfl⟩,q⟩
theorem ky{aa:List (Addr×Obj)}{σ:St}{H:Hp}{s:Shared}{p:Addr}{C':List Value}(I:Inv X aa σ H s)(pl:PlainL s.heap p C'.toArray)(hc:X.calm=true):
  (Walks X.prog X.w X.A.in1 s.heap.objs.size [s.heap.objs.size,p] [s.heap.objs.size] C'.toArray.size (fun i v=>C'.toArray[i]?=some v) (fun i h=>h.IsListIter s.heap.objs.size p i/\h.IsList p C'.toArray)):=by
 have Eu:p<s.heap.objs.size:=by obtain⟨o,ho,_⟩:=pl.isList;exact Z_ ho
 exact T4 (show X.A.in1.handled=none from I.ok.hd hc) s.heap.objs.size p (Nat.ne_of_lt Eu) C'.toArray
noncomputable def fR:List Int->Int
 | []=>0
 |x::r=>x+fR r
theorem lG(val:Nat->Int):∀(ns:List Int) (k:Nat),(∀(i:Nat) v,ns[i]?=some v->val (k+i)=v)->preSum val (k+ns.length)=preSum val k+fR ns
 | [],k,_=>by simp[fR]
 |x::r,k,h=>by
  have h0:val k=x:=h 0 x rfl;have ih:=lG val r (k+1) fun i v e=>by rw[show k+1+i=k+(i+1) by lia];exact h (i+1) v e
  rw[Zg,show k+(r.length+1)=k+1+r.length by lia,ih]
  show preSum val k+val k+fR r=preSum val k+(x+fR r);rw[h0];lia
theorem ka(hc:X.calm=true):dy X (.builtin "sum") (fun xs H Q=>∃(p:Addr) (ns:List Int),xs=[.ref p]/\SqL X.K H p (ns.map V.int)/\Q (.int (fR ns)) H):=by
 intro aa s σ H xs us Q I r h;obtain⟨p,ns,rfl,hq,q⟩:=h;obtain⟨u,rfl,ra⟩:=vals1 r;cases ra;obtain⟨C',rv,pl,hz⟩:=I.list hq;have hl:=rv.length;rw[Z6]at hl;have val:∀(i:Nat) v,C'.toArray[i]?=some v->∃t,v=.int (ns.getD i 0) t:=by
  intro i v e;rw[Yy]at e;have hi:i<ns.length:=by have:=(Zh.mp e).1;lia
  obtain⟨u,eu,ru⟩:=rv.get (i:=i) (x:=.int ns[i]) (by rw[Zn,Z2 hi];rfl)
  rw[e]at eu;cases eu;obtain⟨t,rfl⟩:=ru;exact⟨t,by rw[Z0,Z2 hi];rfl⟩
 refine call_sum_walkG (Xn pl.isList ?_);refine⟨s.heap.objs.size,_,_,_,_,_,fun i=>ns.getD i 0,rfl,ky I pl hc,⟨⟨_,Zk _ rfl,rfl,rfl⟩,pl.isList.push _⟩,fun b hb=>?_,val,fun h' tk t' kp=>?_⟩
 ·have Eu:p<s.heap.objs.size:=by obtain⟨o,ho,_⟩:=pl.isList;exact Z_ ho
  show b<(s.heap.push _).objs.size;rw[Ys];simp only[Zz,Zr,or_false]at hb;rcases hb with rfl|rfl
  ·exact Nat.lt_succ_self _
  ·exact Nat.lt_succ_of_lt Eu
 ·have e:preSum (fun i=>ns.getD i 0) C'.toArray.size=fR ns:=by
   have:=lG (fun i=>ns.getD i 0) ns 0 fun i v e=>by rw[Nat.zero_add,Z0,e];rfl
   rw[Zs,<-hl];simpa [preSum]using this
  rw[e];exact⟨.int (fR ns),H,I.kept fun b o eb=>kp b o (by simp only[Zz,Zr,or_false];exact Nat.ne_of_lt (Z_ eb)) (Z8 _ eb),⟨_,rfl⟩,q⟩
theorem jk(hc:X.calm=true):dy X (.builtin "any") (fun xs H Q=>∃(p:Addr) (bs:List Bool),xs=[.ref p]/\SqL X.K H p (bs.map V.bl)/\Q (.bl (bs.any id)) H):=by
 intro aa s σ H xs us Q I r h;obtain⟨p,bs,rfl,hq,q⟩:=h;obtain⟨u,rfl,ra⟩:=vals1 r;cases ra;obtain⟨C',rv,pl,hz⟩:=I.list hq;have hl:=rv.length;rw[Z6]at hl;refine call_any_walk (Xn pl.isList ?_);refine⟨s.heap.objs.size,_,_,_,_,_,fun i=>bs.getD i false,rfl,ky I pl hc,⟨⟨_,Zk _ rfl,rfl,rfl⟩,pl.isList.push _⟩,fun i v s' Q' E' e hq'=>?_,fun h' tk kp=>?_⟩
 ·have e:C'.toArray[i]?=some v:=e;rw[Yy]at e;have hi:i<bs.length:=by have:=(Zh.mp e).1;lia
  obtain⟨u,eu,ru⟩:=rv.get (i:=i) (x:=.bl bs[i]) (by rw[Zn,Z2 hi];rfl)
  rw[e]at eu;cases eu;cases ru;refine X1 ?_
  have:bs.getD i false=bs[i]:=by rw[Z0,Z2 hi];rfl
  rw[<-this];exact hq'
 ·have e:(Z4 C'.toArray.size).any (fun i=>bs.getD i false)=bs.any id:=by
   rw[Zs,<-hl,ZS,YA,YA];constructor
   ·rintro⟨i,hi,e⟩;have hi:=Zy.mp hi;rw[Z0,Z2 hi]at e;exact⟨bs[i],YC hi,e⟩
   ·rintro⟨b,hb,e⟩;obtain⟨i,hi,rfl⟩:=Yv hb;exact⟨i,Zy.mpr hi,by rw[Z0,Z2 hi];exact e⟩
  rw[e];exact⟨.bl (bs.any id),H,I.kept fun b o eb=>kp b o (by simp only[Zz,Zr,or_false];exact Nat.ne_of_lt (Z_ eb)) (Z8 _ eb),rfl,q⟩
inductive Cmp(K:Z3)(H:Hp):V->V->Bool->Prop
 |flat {x y:V}:qp x=true->qp y=true->Cmp K H x y (eqV x y)
 |pt {a b:Addr} {x y x' y':Int}:SqT K H a [.int x,.int y]->SqT K H b [.int x',.int y']->Cmp K H (.ref a) (.ref b) (decide (x=x'/\y=y'))
theorem Cmp.at{aa:List (Addr×Obj)}{σ:St}{H:Hp}{s:Shared}{x y:V}{b:Bool}{u v:Value}{A:ZK}(I:Inv X aa σ H s)(c:Cmp X.K H x y b)(rx:RelV x u)(ry:RelV y v)(hu:A.units+1<cLine):SeqAt.EqAt A s u v b:=by
 cases c with
 |flat f1 f2=>exact qB rx ry f1 f2
 | @pt a b x y x' y' h1 h2=>
  cases rx;cases ry;by_cases hab:a=b
  ·subst hab
   have:=I.tuple_inj h1 h2
   simp only[WJ,V.int.injEq,and_true]at this;rw[Zt (p:=x=x'/\y=y') this];exact UN _
  ·refine SeqAt.EqAt.of_refs hab ?_;obtain⟨i1,r1,p1,_⟩:=I.tuple h1;obtain⟨i2,r2,p2,_⟩:=I.tuple h2;cases r1 with
   |cons r1 t1=>
    cases t1 with
    |cons r1' t1=>
     cases t1;cases r2 with
     |cons r2 t2=>
      cases t2 with
      |cons r2' t2=>
       cases t2;obtain⟨k1,rfl⟩:=r1;obtain⟨k1',rfl⟩:=r1';obtain⟨k2,rfl⟩:=r2;obtain⟨k2',rfl⟩:=r2'
       have:=SeqAt.RcAt.tuples (A:=A) (s:=s) (e:=fun j=>if j=0 then x==x' else y==y') (show s.heap.IsTuple a _ from p1) (show s.heap.IsTuple b _ from p2) (by lia) fun j j1 j2=>by
        match j,j1 with
        |0,_=>exact XB x k1 x' k2
        |1,_=>exact XB y k1' y' k2'
       have e:((Z4 (min (#[Value.int x k1,Value.int y k1']:Array Value).size (#[Value.int x' k2,Value.int y' k2']:Array Value).size)).all (fun j=>if j=0 then x==x' else y==y')&&(#[Value.int x k1,Value.int y k1']:Array Value).size==(#[Value.int x' k2,Value.int y' k2']:Array Value).size)=decide (x=x'/\y=y'):=by
        show ((Z4 2).all (fun j=>if j=0 then x==x' else y==y')&&true)=_
        rw[Wz];show ((x==x')&&((y==y')&&true))=_;rw[Wz,ZS];simp
       rw[e]at this;exact this
noncomputable def rEqL(K:Z3)(neg:Bool):R2:=fun x y H Q=>∃a b xs ys,x=.ref a/\y=.ref b/\SqL K H a xs/\SqL K H b ys/\
 ((xs.length≠ys.length/\Q (.bl neg) H)\/(xs.length=ys.length/\∃e:Nat->Bool,(∀(j:Nat) x y,xs[j]?=some x->ys[j]?=some y->Cmp K H x y (e j))/\Q (.bl (if neg then !(Z4 xs.length).all e else (Z4 xs.length).all e)) H))
theorem wG(hu:X.A.units+5<cLine):OpR X (compareOp .Eq) (rEqL X.K false):=by
 intro aa s σ H x y v u Q I rx ry h;obtain⟨a,b,xs,ys,rfl,rfl,h1,h2,h⟩:=h;cases rx;cases ry;obtain⟨i1,r1,p1,_⟩:=I.list h1;obtain⟨i2,r2,p2,_⟩:=I.list h2;have l1:=r1.length;have l2:=r2.length;rcases h with ⟨hn,q⟩|⟨he,e,hc,q⟩
 ·exact SeqAt.eq_list_lengthsAt p1.isList p2.isList (by simp only[Zs,bne_iff_ne];lia) (by lia) ⟨.bl false,H,I,rfl,q⟩
 ·refine SeqAt.eq_listAt (e:=e) p1.isList p2.isList (by simp only[Zs];lia) (by lia) (fun j j1 j2=>?_) ⟨.bl ((Z4 xs.length).all e),H,I,?_,q⟩
  ·have j1':j<i1.length:=by simpa using j1
   have j2':j<i2.length:=by simpa using j2
   obtain⟨u,eu,ru⟩:=r1.get (i:=j) (x:=xs[j]'(by lia)) (Z2 _)
   obtain⟨v,ev,rv⟩:=r2.get (i:=j) (x:=ys[j]'(by lia)) (Z2 _)
   rw[Z2 j1']at eu;rw[Z2 j2']at ev;cases eu;cases ev
   have:=(hc j _ _ (Z2 (by lia)) (Z2 (by lia))).at I ru rv (A:=X.A.in1) (by show X.A.units+1+1<cLine;lia)
   simpa using this
  ·rw[Zs,<-l1];rfl
end
noncomputable def Ite(K:Z3)(a:Addr):It:=
 ⟨fun i H=>∃xs x,SqL K H a xs/\xs[i]?=some x,fun i H x H'=>∃T v,x=.ref T/\H T=none/\H'=upd H T (.tup [.int i,v])/\∀xs,SqL K H a xs->xs[i]?=some v,fun i H=>∃xs,SqL K H a xs/\xs.length<=i⟩
theorem yd{P:Zv}{w:Zl}{K:Z3}{es:List ZN}{k:Nat}{pos:Pos}(a e it:Addr)(EJ:e≠it):
  ow P w K (.Tuple es k pos) (Ite K a) [e,it] e (fun i h=>h.IsListIter it a i/\∃old,IsEnum h e it i old) where
 mem:=by simp
 obj:=fun i h st b hb=>by
  obtain⟨⟨o,ho,hc,hd⟩,old,he⟩:=st;simp only[Zz,Zr,or_false]at hb;rcases hb with rfl|rfl
  ·exact⟨_,he,fun v z=>by cases z⟩
  ·exact⟨o,ho,fun v z=>by rw[hd]at z;cases z⟩
 keep:=fun i h h' st k=>⟨st.1.at fun o e'=>k it (by simp) o e',st.2.imp fun old he=>k e (by simp) _ he⟩
 item:=by
  intro X hP hw hK hc i aa s σ H E I hf st hg;subst hP hw hK;obtain⟨xs,x,hq,hx⟩:=hg;obtain⟨hit,old,he⟩:=st;obtain⟨C',rv,p,hz⟩:=I.list hq;obtain⟨u,hu,ru⟩:=rv.get hx;obtain⟨f0,f1,f2,f3,f4,f5⟩:=hf e (by simp)
  obtain⟨g0,g1,g2,g3,g4,g5⟩:=hf it (by simp)
  refine wpAny_pyNext_enum_item he hit p.isList (x:=u) (by simpa using hu) EJ fun h' a1 a2 a3 a4 a5=>?_
  refine⟨_,rfl,?_⟩;refine wpAny_letOwnedTupleGo_enum a1 fun h'' b1 b2=>?_;have elt:e<s.heap.objs.size:=Z_ he;have a3':h''.get? s.heap.objs.size=some {cls:=.type "tuple",data:=.seq #[.int i s.toks,u]}:=b2.extBut _ _ (Nat.ne_of_gt elt) a3;have EZ:H s.heap.objs.size=none:=I.hok.fresh (Nat.le_refl _);have nT:∀b ob,H b=some ob->b≠e/\b≠it:=fun b ob q=>⟨fun z=>(by rw[z,f0]at q;cases q),fun z=>(by rw[z,g0]at q;cases q)⟩
  have kp:∀b o,b∉[e,it]->s.heap.get? b=some o->h''.get? b=some o:=fun b o hb q=>by
   simp only[Zz,Zr,or_false,W6]at hb;exact b2.extBut b o hb.1 (a5 b o hb.1 hb.2 q)
  have okT:bF X.prog X.w (upd H s.heap.objs.size (.tup [.int i,x])) h'' s.heap.objs.size (.tup [.int i,x]):=
   ⟨by show 2<=sizeLine;decide,[.int i s.toks,u],.cons ⟨_,rfl⟩ (.cons ru .nil),⟨_,a3',rfl,_,rfl⟩⟩
  have hokT:HOk X.prog X.w (upd H s.heap.objs.size (.tup [.int i,x])) h'':=fun b o q=>by
   by_cases hb:b=s.heap.objs.size
   ·subst hb;rw[aj]at q;cases q;exact okT
   ·rw[aG hb]at q;refine (I.hok b o q).stay (fun c v hc' z=>kp c v ?_ z) (fun c z=>by rw[aG (a9 z EZ)];exact z) fun c xs z=>by rw[aG (a9 z EZ)];exact z
    simp only[Zz,Zr,or_false,W6];rcases hc' with rfl|hc'
    ·exact nT _ _ q
    ·exact nT _ _ hc'
  have I1:Inv X aa σ (upd H s.heap.objs.size (.tup [.int i,x])) {s with heap:=h'',toks:=s.toks+1}:=by
   refine I.step (g':=s.gens) (d':=s.drawn) (ch:=[e,it]) (fun b hb=>?_) (fun b o _ _ hc' q _=>kp b o hc' q) (fun b o _ _ hc' q _=>⟨o.slots,kp b o hc' q⟩) (fun b o hc' q n=>?_) (fun b o hc' q=>⟨o,kp b o hc' q⟩)
    (fun b xs q=>by rw[aG (a9 q EZ)];exact q) (fun b o u q=>by rw[aG (a9 q EZ)];exact q) (fun b ps q=>⟨#[],by rw[aG (a9 q EZ),q];simp⟩) (fun m hm=>?_) hokT I.bare
   ·simp only[Zz,Zr,or_false]at hb;rcases hb with rfl|rfl
    ·exact⟨f3,f1,f4,f5⟩
    ·exact⟨g3,g1,g4,g5⟩
   ·rw[aG (Nat.ne_of_lt (Z_ q))];exact n
   ·obtain⟨o,Es,ep,ho,r⟩:=hm;exact⟨o,Es,ep,kp _ o (by simp only[Zz,Zr,or_false,W6];exact⟨Ne.symm f1,Ne.symm g1⟩) ho,r⟩
  refine⟨.ref s.heap.objs.size,_,I1,rfl,⟨_,x,rfl,EZ,rfl,fun ys hy=>by rw[I.list_inj hy hq];exact hx⟩,⟨a2.extBut b2.extBut (Ne.symm EJ),u,by simpa using b1⟩,fun b hb=>?_⟩
  have hb':b<s.heap.objs.size:=by
   simp only[Zz,Zr,or_false]at hb;rcases hb with rfl|rfl
   ·exact elt
   ·obtain⟨o,ho,_⟩:=hit;exact Z_ ho
  rw[aG (Nat.ne_of_lt hb')];exact (hf b hb).1
 done:=by
  intro X hP hw hK hc i aa s σ H E I hf st hg;subst hP hw hK;obtain⟨xs,hq,hx⟩:=hg;obtain⟨hit,old,he⟩:=st;obtain⟨C',rv,p,hz⟩:=I.list hq;obtain⟨g0,g1,g2,g3,g4,g5⟩:=hf it (by simp)
  have hl:=rv.length;exact wpAny_pyNext_enum_end (I.ok.hd hc) he hit p.isList (by simp;lia) fun h' eb=>⟨rfl,I.turned (t':=s.toks) (fun b o hb e=>eb b o hb e) g0 g1 g3 g4 g5⟩
 self:=fun _ _ _ _ _ st h=>by
  obtain⟨_,old,he⟩:=st;exact Ud he h
section
variable{X:Cx}
noncomputable def DZ(K:Z3)(ta:TA):TI:=fun σ H R=>ta σ H fun vs H1=>∃a,vs=[.ref a]/\(∃xs,SqL K H1 a xs)/\R (Ite K a) H1
theorem B9{es:List ZN}{k:Nat}{Fb:Pos}{l:ZN}{ta:TA}{p pos:Pos}(hg:Gl X "enumerate")(hm:X.mg "enumerate" = none)(ha:PA X [l] ta)(hs:Zp [l] X.env=(false,eval l X.env)::Zp [] X.env:=by rfl):
  PI X (.Tuple es k Fb) (.Call (.Name "enumerate" p) [l] [] pos) (DZ X.K ta):=by
 intro aa s σ H R I h;refine Call_ (fG I hg hm boot_enumerate (ZV (thn (ha pos aa s σ H _ I h) fun us s1 zz=>?_) hs rfl));obtain⟨vs,H1,I1,r1,q1⟩:=zz;obtain⟨a,rfl,⟨xs,hq⟩,q⟩:=q1;obtain⟨u,rfl,ra⟩:=vals1 r1;cases ra;obtain⟨C',rv,pl,hz⟩:=I1.list hq;refine call_enumerate_list pl.isList fun h' a1 a2 a3 a4=>?_;refine Ud a1 ?_;have I2:Inv X aa σ H1 {s1 with heap:=h'}:=I1.kept (t':=s1.toks) a4
 refine⟨s1.heap.objs.size+1,[s1.heap.objs.size+1,s1.heap.objs.size],_,_,H1,rfl,I2,yd a _ _ (Nat.succ_ne_self _),⟨a2,.none,by simpa using a1⟩,fun b hb=>?_,q⟩
 simp only[Zz,Zr,or_false]at hb;rcases hb with rfl|rfl
 ·exact I1.fpOk (Nat.le_succ _) (I1.hok.fresh (Nat.le_succ _))
 ·exact I1.fpOk (Nat.le_refl _) (I1.hok.fresh (Nat.le_refl _))
end
end L2
end
section
namespace FF
noncomputable abbrev Pt:=Int×Int
noncomputable def turn(a b p:Pt):Int:=(b.1-a.1)*(p.2-a.2)-(b.2-a.2)*(p.1-a.1)
noncomputable def bo(a b c d:Pt):Prop:=∃u v s t:Int,0<=u/\0<=v/\0<=s/\0<=t/\0<u+v/\u+v=s+t/\
 u*a.1+v*b.1=s*c.1+t*d.1/\u*a.2+v*b.2=s*c.2+t*d.2
noncomputable def Back(a c b:Pt):Prop:=∃s t:Int,0<s/\0<t/\s*(a.1-c.1)=t*(b.1-c.1)/\s*(a.2-c.2)=t*(b.2-c.2)
noncomputable def On(a b c:Pt):Prop:=∃u v:Int,0<=u/\0<=v/\0<u+v/\u*a.1+v*b.1=(u+v)*c.1/\u*a.2+v*b.2=(u+v)*c.2
theorem dQ{k x:Int}(hk:0<k)(h:0<=k*x):0<=x:=by
 apply Z9;intro hx
 have:=Int.mul_neg_of_pos_of_neg hk (show x<0 by lia)
 lia
theorem dF{k x:Int}(hk:0<k)(h:0<k*x):0<x:=by
 apply Z9;intro hx
 have:k*x<=0:=by
  have:=Int.mul_nonneg (Int.le_of_lt hk) (show 0<=-x by lia)
  have e:k*-x=-(k*x):=by grind
  lia
 lia
theorem bI{k x:Int}(hk:0<k)(h:k*x=0):x=0:=by
 rcases Int.mul_eq_zero.mp h with h|h<;>lia
theorem k6(x:Int):0<=x*x:=by
 rcases Int.le_total 0 x with h|h
 ·exact Int.mul_nonneg h h
 ·have:=Int.mul_nonneg (show 0<=-x by lia) (show 0<=-x by lia)
  have e:-x*-x=x*x:=by grind
  lia
theorem xp{x:Int}(h:x≠0):0<x*x:=by
 have h1:=k6 x;have h2:x*x≠0:=fun e=>by rcases Int.mul_eq_zero.mp e with h3|h3<;>exact h h3
 omega
theorem sU{x y:Int}(h:¬(x=0/\y=0)):0<x*x+y*y:=by
 have h1:=k6 x;have h2:=k6 y;by_cases hx:x=0
 ·have hy:y≠0:=fun e=>h ⟨hx,e⟩
  have:=xp hy
  lia
 ·have:=xp hx
  lia
theorem On.turn{a b c:Pt}(h:On a b c):FF.turn a b c=0:=by
 obtain⟨u,v,hu,hv,hp,e1,e2⟩:=h;apply bI hp;unfold FF.turn;grind
theorem On.btw1{a b c:Pt}(h:On a b c):(a.1<=c.1/\c.1<=b.1)\/(b.1<=c.1/\c.1<=a.1):=by
 obtain⟨u,v,hu,hv,hp,e1,e2⟩:=h;have e3:(u+v)*(c.1-a.1)=v*(b.1-a.1):=by grind
 have e4:(u+v)*(b.1-c.1)=u*(b.1-a.1):=by grind
 have e5:(u+v)*(a.1-c.1)=v*(a.1-b.1):=by grind
 have e6:(u+v)*(c.1-b.1)=u*(a.1-b.1):=by grind
 rcases Int.le_total a.1 b.1 with h|h
 ·left;have h3:=dQ hp (e3 ▸ Int.mul_nonneg hv (by lia))
  have h4:=dQ hp (e4 ▸ Int.mul_nonneg hu (by lia))
  lia
 ·right;have h3:=dQ hp (e5 ▸ Int.mul_nonneg hv (by lia))
  have h4:=dQ hp (e6 ▸ Int.mul_nonneg hu (by lia))
  lia
theorem On.flip{a b c:Pt}(h:On a b c):On (a.2,a.1) (b.2,b.1) (c.2,c.1):=by
 obtain⟨u,v,hu,hv,hp,e1,e2⟩:=h;exact⟨u,v,hu,hv,hp,e2,e1⟩
theorem On.btw2{a b c:Pt}(h:On a b c):(a.2<=c.2/\c.2<=b.2)\/(b.2<=c.2/\c.2<=a.2):=h.flip.btw1
theorem vU{a b c:Pt}(ht:FF.turn a b c=0)(h1:(a.1<=c.1/\c.1<=b.1)\/(b.1<=c.1/\c.1<=a.1))
  (h2:(a.2<=c.2/\c.2<=b.2)\/(b.2<=c.2/\c.2<=a.2)):On a b c:=by
 unfold FF.turn at ht;by_cases hx:a.1=b.1
 ·by_cases hy:a.2=b.2
  ·refine⟨1,0,by lia,by lia,by lia,?_,?_⟩<;>lia
  ·rcases h2 with h2|h2
   ·exact⟨b.2-c.2,c.2-a.2,by lia,by lia,by lia,by grind,by grind⟩
   ·exact⟨c.2-b.2,a.2-c.2,by lia,by lia,by lia,by grind,by grind⟩
 ·rcases h1 with h1|h1
  ·exact⟨b.1-c.1,c.1-a.1,by lia,by lia,by lia,by grind,by grind⟩
  ·exact⟨c.1-b.1,a.1-c.1,by lia,by lia,by lia,by grind,by grind⟩
theorem bo.symm{a b c d:Pt}(h:bo a b c d):bo c d a b:=by
 obtain⟨u,v,s,t,hu,hv,hs,ht,hp,he,e1,e2⟩:=h;exact⟨s,t,u,v,hs,ht,hu,hv,by lia,by lia,e1.symm,e2.symm⟩
theorem bo.swap1{a b c d:Pt}(h:bo a b c d):bo b a c d:=by
 obtain⟨u,v,s,t,hu,hv,hs,ht,hp,he,e1,e2⟩:=h;exact⟨v,u,s,t,hv,hu,hs,ht,by lia,by lia,by lia,by lia⟩
theorem bo.swap2{a b c d:Pt}(h:bo a b c d):bo a b d c:=h.symm.swap1.symm
theorem On.meet1{a b c d:Pt}(h:On a b c):bo a b c d:=by
 obtain⟨u,v,hu,hv,hp,e1,e2⟩:=h;exact⟨u,v,u+v,0,hu,hv,by lia,by lia,hp,by lia,by rw[e1];lia,by rw[e2];lia⟩
theorem On.meet2{a b c d:Pt}(h:On a b d):bo a b c d:=h.meet1.swap2
theorem On.meet3{a b c d:Pt}(h:On c d a):bo a b c d:=h.meet1.symm
theorem On.meet4{a b c d:Pt}(h:On c d b):bo a b c d:=h.meet1.symm.swap1
theorem opp{x y:Int}(h:x*y<0):(x<0/\0<y)\/(0<x/\y<0):=by
 rcases Int.lt_trichotomy x 0 with hx|hx|hx
 ·left;refine⟨hx,?_⟩;apply Z9;intro hy
  have:=Int.mul_nonneg (show 0<=-x by lia) (show 0<=-y by lia)
  have e:-x*-y=x*y:=by grind
  lia
 ·subst hx;lia
 ·right;refine⟨hx,?_⟩;apply Z9;intro hy
  have:=Int.mul_nonneg (show 0<=x by lia) (show 0<=y by lia)
  lia
theorem Dc{x y:Int}(h:(x<0/\0<y)\/(0<x/\y<0)):x*y<0:=by
 rcases h with ⟨h1,h2⟩|⟨h1,h2⟩
 ·exact Int.mul_neg_of_neg_of_pos h1 h2
 ·exact Int.mul_neg_of_pos_of_neg h1 h2
theorem qb{a b c d:Pt}(h1:FF.turn a b c*FF.turn a b d<0)(h2:FF.turn c d a*FF.turn c d b<0):bo a b c d:=by
 have e0:FF.turn a b d-FF.turn a b c=FF.turn c d a-FF.turn c d b:=by unfold FF.turn;grind
 have e1:FF.turn a b d*c.1-FF.turn a b c*d.1=FF.turn c d a*b.1-FF.turn c d b*a.1:=by unfold FF.turn;grind
 have e2:FF.turn a b d*c.2-FF.turn a b c*d.2=FF.turn c d a*b.2-FF.turn c d b*a.2:=by unfold FF.turn;grind
 generalize FF.turn a b d=T2 at *
 generalize FF.turn a b c=T1 at *
 generalize FF.turn c d a=S1 at *
 generalize FF.turn c d b=S2 at *
 rcases opp h1 with q1|q1
 ·rcases opp h2 with q2|q2
  ·lia
  ·refine⟨-S2,S1,T2,-T1,by lia,by lia,by lia,by lia,by lia,by lia,?_,?_⟩<;>grind
 ·rcases opp h2 with q2|q2
  ·refine⟨S2,-S1,-T2,T1,by lia,by lia,by lia,by lia,by lia,by lia,?_,?_⟩<;>grind
  ·lia
theorem Bg{s t u v fc fd l:Int}(mf:s*fc+t*fd=v*l)(he:u+v=s+t):s*(fc-l)+t*(fd-l)+u*l=0:=by
 have e:v=s+t-u:=by lia
 subst e;grind
theorem CC{w1 w2 p1 p2 q1 q2:Int}(pq:p1*q2=p2*q1):
  (w1*q1+w2*q2)*p1=(w1*p1+w2*p2)*q1/\(w1*q1+w2*q2)*p2=(w1*p1+w2*p2)*q2:=by
 constructor<;>grind
theorem vL{a b c d:Pt}(h:bo a b c d):On a b c\/On a b d\/On c d a\/On c d b\/
  (FF.turn a b c*FF.turn a b d<0/\FF.turn c d a*FF.turn c d b<0):=by
 obtain⟨u,v,s,t,hu,hv,hs,ht,hp,he,e1,e2⟩:=h;have k1:s*FF.turn a b c+t*FF.turn a b d=0:=by unfold FF.turn;grind
 have k2:u*FF.turn c d a+v*FF.turn c d b=0:=by unfold FF.turn;grind
 have e0:FF.turn a b d-FF.turn a b c=FF.turn c d a-FF.turn c d b:=by unfold FF.turn;grind
 by_cases z1:FF.turn a b c=0
 ·by_cases z2:FF.turn a b d=0
  ·
   by_cases hab:a.1-b.1=0/\a.2-b.2=0
   ·refine .inr (.inr (.inl ⟨s,t,hs,ht,by lia,?_,?_⟩))<;>grind
   ·have L:=sU hab;unfold FF.turn at z1 z2;have pq:(c.1-a.1)*(d.2-a.2)=(c.2-a.2)*(d.1-a.1):=by
     have:((a.1-b.1)*(a.1-b.1)+(a.2-b.2)*(a.2-b.2))*((c.1-a.1)*(d.2-a.2)-(c.2-a.2)*(d.1-a.1))=0:=by grind
     have:=bI L this
     lia
    have mf:s*((b.1-a.1)*(c.1-a.1)+(b.2-a.2)*(c.2-a.2))+t*((b.1-a.1)*(d.1-a.1)+(b.2-a.2)*(d.2-a.2))
      = v*((a.1-b.1)*(a.1-b.1)+(a.2-b.2)*(a.2-b.2)):=by grind
    have wc:On a b c\/((b.1-a.1)*(c.1-a.1)+(b.2-a.2)*(c.2-a.2)<0)\/((a.1-b.1)*(a.1-b.1)+(a.2-b.2)*(a.2-b.2)<(b.1-a.1)*(c.1-a.1)+(b.2-a.2)*(c.2-a.2)):=by
     by_cases g1:(b.1-a.1)*(c.1-a.1)+(b.2-a.2)*(c.2-a.2)<0
     ·exact .inr (.inl g1)
     ·by_cases g2:(a.1-b.1)*(a.1-b.1)+(a.2-b.2)*(a.2-b.2)<(b.1-a.1)*(c.1-a.1)+(b.2-a.2)*(c.2-a.2)
      ·exact .inr (.inr g2)
      ·left;refine⟨((a.1-b.1)*(a.1-b.1)+(a.2-b.2)*(a.2-b.2))-((b.1-a.1)*(c.1-a.1)+(b.2-a.2)*(c.2-a.2)),(b.1-a.1)*(c.1-a.1)+(b.2-a.2)*(c.2-a.2),by lia,by lia,by lia,?_,?_⟩<;>grind
    have wd:On a b d\/((b.1-a.1)*(d.1-a.1)+(b.2-a.2)*(d.2-a.2)<0)\/((a.1-b.1)*(a.1-b.1)+(a.2-b.2)*(a.2-b.2)<(b.1-a.1)*(d.1-a.1)+(b.2-a.2)*(d.2-a.2)):=by
     by_cases g1:(b.1-a.1)*(d.1-a.1)+(b.2-a.2)*(d.2-a.2)<0
     ·exact .inr (.inl g1)
     ·by_cases g2:(a.1-b.1)*(a.1-b.1)+(a.2-b.2)*(a.2-b.2)<(b.1-a.1)*(d.1-a.1)+(b.2-a.2)*(d.2-a.2)
      ·exact .inr (.inr g2)
      ·left;refine⟨((a.1-b.1)*(a.1-b.1)+(a.2-b.2)*(a.2-b.2))-((b.1-a.1)*(d.1-a.1)+(b.2-a.2)*(d.2-a.2)),(b.1-a.1)*(d.1-a.1)+(b.2-a.2)*(d.2-a.2),by lia,by lia,by lia,?_,?_⟩<;>grind
    rcases wc with wc|wc
    ·exact .inl wc
    rcases wd with wd|wd
    ·exact .inr (.inl wd)
    have onA:=CC (w1:=b.1-a.1) (w2:=b.2-a.2) pq;generalize (b.1-a.1)*(c.1-a.1)+(b.2-a.2)*(c.2-a.2)=fc at *
    generalize (b.1-a.1)*(d.1-a.1)+(b.2-a.2)*(d.2-a.2)=fd at *
    generalize (a.1-b.1)*(a.1-b.1)+(a.2-b.2)*(a.2-b.2)=l at *
    have vl:=Int.mul_nonneg hv (Int.le_of_lt L);rcases wc with wc|wc
    ·rcases wd with wd|wd
     ·exfalso;have q1:=Int.mul_nonneg hs (show 0<=-fc by lia)
      have q2:=Int.mul_nonneg ht (show 0<=-fd by lia)
      have q3:s*-fc=-(s*fc):=by grind
      have q4:t*-fd=-(t*fd):=by grind
      have q5:s*fc=0:=by lia
      have q6:t*fd=0:=by lia
      rcases Int.mul_eq_zero.mp q5 with q|q
      ·rcases Int.mul_eq_zero.mp q6 with q'|q'<;>lia
      ·lia
     ·refine .inr (.inr (.inl ⟨fd,-fc,by lia,by lia,by lia,?_,?_⟩))<;>grind
    ·rcases wd with wd|wd
     ·refine .inr (.inr (.inl ⟨-fd,fc,by lia,by lia,by lia,?_,?_⟩))<;>grind
     ·exfalso;have q1:=Int.mul_nonneg hs (show 0<=fc-l by lia)
      have q2:=Int.mul_nonneg ht (show 0<=fd-l by lia)
      have q3:=Int.mul_nonneg hu (Int.le_of_lt L);have q4:s*(fc-l)+t*(fd-l)+u*l=0:=Bg mf he;have q5:s*(fc-l)=0:=by omega
      have q6:t*(fd-l)=0:=by omega
      rcases Int.mul_eq_zero.mp q5 with q|q
      ·rcases Int.mul_eq_zero.mp q6 with q'|q'<;>lia
      ·lia
  ·
   left;rw[z1]at k1
   have:t=0:=by rcases Int.mul_eq_zero.mp (show t*FF.turn a b d=0 by lia) with q|q<;>lia
   subst this;refine⟨u,v,hu,hv,hp,?_,?_⟩<;>grind
 ·by_cases z2:FF.turn a b d=0
  ·right;left;rw[z2]at k1
   have:s=0:=by rcases Int.mul_eq_zero.mp (show s*FF.turn a b c=0 by lia) with q|q<;>lia
   subst this;refine⟨u,v,hu,hv,hp,?_,?_⟩<;>grind
  ·by_cases z3:FF.turn c d a=0
   ·right;right;by_cases z4:FF.turn c d b=0
    ·exfalso;have e3:FF.turn a b c=FF.turn a b d:=by lia
     rw[e3]at k1;have e4:(u+v)*FF.turn a b d=0:=by grind
     exact z2 (bI hp e4)
    ·left;rw[z3]at k2
     have:v=0:=by rcases Int.mul_eq_zero.mp (show v*FF.turn c d b=0 by lia) with q|q<;>lia
     subst this;refine⟨s,t,hs,ht,by lia,?_,?_⟩<;>grind
   ·right;right;by_cases z4:FF.turn c d b=0
    ·right;left;rw[z4]at k2
     have:u=0:=by rcases Int.mul_eq_zero.mp (show u*FF.turn c d a=0 by lia) with q|q<;>lia
     subst this;refine⟨s,t,hs,ht,by lia,?_,?_⟩<;>grind
    ·right;right;have key:∀x y S T:Int,0<=x->0<=y->0<x+y->x*S+y*T=0->S≠0->T≠0->S*T<0:=by
      intro x y S T hx hy Ge e hS hT;apply Dc;apply Z9;intro Fp;have hc:(0<S/\0<T)\/(S<0/\T<0):=by lia
      rcases hc with ⟨p1,p2⟩|⟨p1,p2⟩
      ·have q1:=Int.mul_nonneg hx (Int.le_of_lt p1);have q2:=Int.mul_nonneg hy (Int.le_of_lt p2);rcases Int.mul_eq_zero.mp (show x*S=0 by lia) with q|q
       ·rcases Int.mul_eq_zero.mp (show y*T=0 by lia) with q'|q'<;>lia
       ·lia
      ·have q1:=Int.mul_nonneg hx (show 0<=-S by lia)
       have q2:=Int.mul_nonneg hy (show 0<=-T by lia)
       have q3:x*-S=-(x*S):=by grind
       have q4:y*-T=-(y*T):=by grind
       rcases Int.mul_eq_zero.mp (show x*S=0 by lia) with q|q
       ·rcases Int.mul_eq_zero.mp (show y*T=0 by lia) with q'|q'<;>lia
       ·lia
     exact⟨key s t _ _ hs ht (by lia) k1 z1 z2,key u v _ _ hu hv hp k2 z3 z4⟩
end FF
end
section
namespace FF
theorem bo.sepX{a b c d:Pt}{k:Int}(h:bo a b c d)(h1:a.1<=k)(h2:b.1<=k)(h3:k<c.1)(h4:k<d.1):False:=by
 obtain⟨u,v,s,t,hu,hv,hs,ht,hp,he,e1,_⟩:=h;have q1:=Int.mul_nonneg hu (show 0<=k-a.1 by lia)
 have q2:=Int.mul_nonneg hv (show 0<=k-b.1 by lia)
 have q3:=Int.mul_nonneg hs (show 0<=c.1-k-1 by lia)
 have q4:=Int.mul_nonneg ht (show 0<=d.1-k-1 by lia)
 have e:u*(k-a.1)+v*(k-b.1)+s*(c.1-k-1)+t*(d.1-k-1)=- (u+v):=by
  have e':v=s+t-u:=by lia
  subst e';grind
 lia
theorem bo.touchX{a b c d:Pt}(h:bo a b c d)(h1:a.1<b.1)(h2:b.1=c.1)(h3:c.1<d.1)(h4:b.2≠c.2):False:=by
 obtain⟨u,v,s,t,hu,hv,hs,ht,hp,he,e1,e2⟩:=h;have q1:=Int.mul_nonneg hu (show 0<=b.1-a.1 by lia)
 have q4:=Int.mul_nonneg ht (show 0<=d.1-c.1 by lia)
 have e:u*(b.1-a.1)+t*(d.1-c.1)=0:=by
  have e':v=s+t-u:=by lia
  subst e';grind
 have z1:u=0:=by
  rcases Int.mul_eq_zero.mp (show u*(b.1-a.1)=0 by omega) with q|q<;>omega
 have z2:t=0:=by
  rcases Int.mul_eq_zero.mp (show t*(d.1-c.1)=0 by omega) with q|q<;>omega
 subst z1 z2;have e5:v=s:=by lia
 subst e5;have e6:v*(b.2-c.2)=0:=by grind
 rcases Int.mul_eq_zero.mp e6 with q|q<;>lia
theorem bo.turns{a b c d:Pt}(h:bo a b c d)(h1:0<turn a b c)(h2:0<turn a b d):False:=by
 obtain⟨u,v,s,t,hu,hv,hs,ht,hp,he,e1,e2⟩:=h;have k1:s*FF.turn a b c+t*FF.turn a b d=0:=by unfold FF.turn;grind
 have q1:=Int.mul_nonneg hs (Int.le_of_lt h1);have q2:=Int.mul_nonneg ht (Int.le_of_lt h2);have z1:s=0:=by rcases Int.mul_eq_zero.mp (show s*turn a b c=0 by lia) with q|q<;>lia
 have z2:t=0:=by rcases Int.mul_eq_zero.mp (show t*turn a b d=0 by lia) with q|q<;>lia
 lia
theorem Back.symm{a c b:Pt}(h:Back a c b):Back b c a:=by
 obtain⟨s,t,hs,ht,e1,e2⟩:=h;exact⟨t,s,ht,hs,e1.symm,e2.symm⟩
theorem Back.offX{a c b:Pt}(h:Back a c b)(h1:a.1<=c.1)(h2:c.1<=b.1)(h3:a.1<b.1):False:=by
 obtain⟨s,t,hs,ht,e1,e2⟩:=h;have q1:=Int.mul_nonneg (Int.le_of_lt hs) (show 0<=c.1-a.1 by lia)
 have q2:=Int.mul_nonneg (Int.le_of_lt ht) (show 0<=b.1-c.1 by lia)
 have e3:s*(c.1-a.1)=-(t*(b.1-c.1)):=by grind
 rcases Int.mul_eq_zero.mp (show s*(c.1-a.1)=0 by omega) with q|q
 ·lia
 rcases Int.mul_eq_zero.mp (show t*(b.1-c.1)=0 by omega) with q'|q'<;>omega
theorem Back.tip{a c b:Pt}(h:Back a c b)(h1:a.1=b.1)(h2:a.1≠c.1)(h3:a.2≠b.2):False:=by
 obtain⟨s,t,hs,ht,e1,e2⟩:=h;have e3:(s-t)*(a.1-c.1)=0:=by rw[h1]at e1 ⊢;grind
 have e4:s=t:=by rcases Int.mul_eq_zero.mp e3 with q|q<;>lia
 subst e4;have e5:s*(a.2-b.2)=0:=by grind
 rcases Int.mul_eq_zero.mp e5 with q|q<;>lia
noncomputable def at'(cs:List Pt)(i:Nat):Pt:=cs.getD i (0,0)
noncomputable def nx(n i:Nat):Nat:=if i+1=n then 0 else i+1
structure cu(n:Nat)(P:Nat->Pt):Prop where
 inj:∀i j,i<n->j<n->P i=P j->i=j
 nob:∀i,i<n->¬Back (P i) (P (nx n i)) (P (nx n (nx n i)))
 nom:∀i j,i<n->j<n->i≠j->nx n i≠j->nx n j≠i->¬bo (P i) (P (nx n i)) (P j) (P (nx n j))
structure aF(cs:List Pt):Prop where
 lo:3<=cs.length
 hi:cs.length<=12
 ok:cu cs.length (at' cs)
theorem aK{n i:Nat}(h:i<n):nx n i<n:=by unfold nx;split<;>lia
theorem cu.reindex{n:Nat}{P R:Nat->Pt}(F:cu n P)(σ:Nat->Nat)(h1:∀i,i<n->σ i<n)(h2:∀i j,i<n->j<n->σ i=σ j->i=j)
  (h3:∀i,i<n->R i=P (σ i))(h4:∀i,i<n->σ (nx n i)=nx n (σ i)):cu n R:=by
 refine⟨fun i j hi hj e=>?_,fun i hi=>?_,fun i j hi hj h5 h6 h7=>?_⟩
 ·rw[h3 i hi,h3 j hj]at e;exact h2 i j hi hj (F.inj _ _ (h1 i hi) (h1 j hj) e)
 ·rw[h3 i hi,h3 _ (aK hi),h3 _ (aK (aK hi)),h4 _ (aK hi),h4 _ hi];exact F.nob _ (h1 i hi)
 ·rw[h3 i hi,h3 _ (aK hi),h3 j hj,h3 _ (aK hj),h4 _ hi,h4 _ hj];refine F.nom _ _ (h1 i hi) (h1 j hj) (fun e=>h5 (h2 i j hi hj e)) (fun e=>h6 ?_) (fun e=>h7 ?_)
  ·rw[<-h4 _ hi]at e;exact h2 _ _ (aK hi) hj e
  ·rw[<-h4 _ hj]at e;exact h2 _ _ (aK hj) hi e
theorem cu.reversed{n:Nat}{P R:Nat->Pt}(F:cu n P)(h3:∀i,i<n->R i=P (n-1-i)):cu n R:=by
 have h1:∀i,i<n->n-1-i<n:=by lia
 have h2:∀i j,i<n->j<n->n-1-i=n-1-j->i=j:=by lia
 have h4:∀i,i<n->nx n (n-1-nx n i)=n-1-i:=by
  intro i hi;unfold nx
  split<;>split<;>lia
 have h5:∀i j,i<n->j<n->nx n i=nx n j->i=j:=by
  intro i j hi hj;unfold nx
  split<;>split<;>lia
 refine⟨fun i j hi hj e=>?_,fun i hi hb=>?_,fun i j hi hj h5' h6 h7 hm=>?_⟩
 ·rw[h3 i hi,h3 j hj]at e;exact h2 i j hi hj (F.inj _ _ (h1 i hi) (h1 j hj) e)
 ·rw[h3 i hi,h3 _ (aK hi),h3 _ (aK (aK hi))]at hb
  have:=F.nob _ (h1 _ (aK (aK hi)))
  rw[h4 _ (aK hi),h4 _ hi]at this;exact this hb.symm
 ·rw[h3 i hi,h3 _ (aK hi),h3 j hj,h3 _ (aK hj)]at hm
  have:=F.nom _ _ (h1 _ (aK hi)) (h1 _ (aK hj)) (fun e=>h5' (h5 _ _ hi hj (h2 _ _ (aK hi) (aK hj) e)))
   (fun e=>h7 (by rw[h4 _ hi]at e;exact (h2 _ _ hi (aK hj) e).symm))
   (fun e=>h6 (by rw[h4 _ hj]at e;exact (h2 _ _ hj (aK hi) e).symm))
  rw[h4 _ hi,h4 _ hj]at this;exact this hm.swap1.swap2
structure Tn where
 a:Int
 b:Int
 c:Int
 d:Int
 e:Int
 f:Int
noncomputable def Tn.det(T:Tn):Int:=T.a*T.d-T.b*T.c
noncomputable def Tn.led(T:Tn)(p:Pt):Pt:=(T.a*p.1+T.b*p.2+T.e,T.c*p.1+T.d*p.2+T.f)
theorem DC{a b c d x y X Y:Int}(h1:a*x+b*y=X)(h2:c*x+d*y=Y):(a*d-b*c)*x=d*X-b*Y/\(a*d-b*c)*y=a*Y-c*X:=by
 constructor<;>grind
theorem dI{k x y:Int}(hk:k≠0)(h:k*x=k*y):x=y:=Int.eq_of_mul_eq_mul_left hk h
theorem oU{T:Tn}(h:T.det≠0){p q:Pt}(e:T.led p=T.led q):p=q:=by
 have e1:T.a*p.1+T.b*p.2=T.a*q.1+T.b*q.2:=by have:=Y_ Uc e;simp only[Tn.led]at this;lia
 have e2:T.c*p.1+T.d*p.2=T.c*q.1+T.d*q.2:=by have:=Y_ Vq e;simp only[Tn.led]at this;lia
 have i1:=DC e1 e2;have i2:=DC (a:=T.a) (b:=T.b) (c:=T.c) (d:=T.d) (x:=q.1) (y:=q.2) rfl rfl;exact YT (dI h (i1.1.trans i2.1.symm)) (dI h (i1.2.trans i2.2.symm))
theorem Back.unled{T:Tn}(h:T.det≠0){a c b:Pt}(k:Back (T.led a) (T.led c) (T.led b)):Back a c b:=by
 obtain⟨s,t,hs,ht,e1,e2⟩:=k;simp only[Tn.led]at e1 e2;refine⟨s,t,hs,ht,dI h ?_,dI h ?_⟩
 ·unfold Tn.det;grind
 ·unfold Tn.det;grind
theorem bo.unled{T:Tn}(h:T.det≠0){a b c d:Pt}(k:bo (T.led a) (T.led b) (T.led c) (T.led d)):bo a b c d:=by
 obtain⟨u,v,s,t,hu,hv,hs,ht,hp,he,e1,e2⟩:=k;simp only[Tn.led]at e1 e2;have e':v=s+t-u:=by lia
 refine⟨u,v,s,t,hu,hv,hs,ht,hp,he,dI h ?_,dI h ?_⟩
 ·unfold Tn.det;subst e';grind
 ·unfold Tn.det;subst e';grind
theorem Back.led(T:Tn){a c b:Pt}(k:Back a c b):Back (T.led a) (T.led c) (T.led b):=by
 obtain⟨s,t,hs,ht,e1,e2⟩:=k;refine⟨s,t,hs,ht,?_,?_⟩<;>simp only[Tn.led]<;>grind
theorem bo.led(T:Tn){a b c d:Pt}(k:bo a b c d):bo (T.led a) (T.led b) (T.led c) (T.led d):=by
 obtain⟨u,v,s,t,hu,hv,hs,ht,hp,he,e1,e2⟩:=k;have e':v=s+t-u:=by lia
 refine⟨u,v,s,t,hu,hv,hs,ht,hp,he,?_,?_⟩<;>simp only[Tn.led]<;>subst e'<;>grind
theorem cu.led{n:Nat}{P R:Nat->Pt}(F:cu n P)(T:Tn)(h:T.det≠0)(h3:∀i,i<n->R i=T.led (P i)):cu n R:=by
 refine⟨fun i j hi hj e=>?_,fun i hi hb=>?_,fun i j hi hj h5' h6 h7 hm=>?_⟩
 ·rw[h3 i hi,h3 j hj]at e;exact F.inj _ _ hi hj (oU h e)
 ·rw[h3 i hi,h3 _ (aK hi),h3 _ (aK (aK hi))]at hb;exact F.nob _ hi (hb.unled h)
 ·rw[h3 i hi,h3 _ (aK hi),h3 j hj,h3 _ (aK hj)]at hm;exact F.nom _ _ hi hj h5' h6 h7 (hm.unled h)
theorem cu.unled{n:Nat}{P R:Nat->Pt}(F:cu n R)(T:Tn)(h3:∀i,i<n->R i=T.led (P i)):cu n P:=by
 refine⟨fun i j hi hj e=>?_,fun i hi hb=>?_,fun i j hi hj h5' h6 h7 hm=>?_⟩
 ·exact F.inj _ _ hi hj (by rw[h3 i hi,h3 j hj,e])
 ·refine F.nob _ hi ?_;rw[h3 i hi,h3 _ (aK hi),h3 _ (aK (aK hi))];exact hb.led T
 ·refine F.nom _ _ hi hj h5' h6 h7 ?_;rw[h3 i hi,h3 _ (aK hi),h3 j hj,h3 _ (aK hj)];exact hm.led T
end FF
end
section
namespace FF
noncomputable def cm(m b:Nat)(x l h:Nat->Int)(i:Nat):Pt:=if i<m then (x i,l i) else (x (2*m-1-b-i),h (2*m-1-b-i))
structure dD(m a b:Nat)(x l h:Nat->Int):Prop where
 m2:2<=m
 m6:m<=6
 a1:a<=1
 b1:b<=1
 n3:3<=2*m-a-b
 xs:∀i j,i<j->j<m->x i<x j
 lh:∀i,i<m->l i<h i
noncomputable def up(m a b:Nat)(l h:Nat->Int)(k:Nat):Int:=if (k=0/\a=1)\/(k=m-1/\b=1) then l k else h k
inductive rV(m a b n:Nat)(x l h:Nat->Int)(P:Nat->Pt)(i:Nat):Prop
 |low:i<m-1->P i=(x i,l i)->P (nx n i)=(x (i+1),l (i+1))->rV m a b n x l h P i
 |right:i=m-1->b=0->P i=(x (m-1),l (m-1))->P (nx n i)=(x (m-1),h (m-1))->rV m a b n x l h P i
 |high (s:Nat):s+b+i+2=2*m->s<=m-2->P i=(x (s+1),up m a b l h (s+1))->P (nx n i)=(x s,up m a b l h s)->rV m a b n x l h P i
 |left:i=n-1->a=0->P i=(x 0,h 0)->P (nx n i)=(x 0,l 0)->rV m a b n x l h P i
variable{m a b n:Nat}{x l h:Nat->Int}{P:Nat->Pt}
set_option synthInstance.maxHeartbeats 2000000 in
set_option synthInstance.maxSize 100000 in
set_option maxRecDepth 10000 in
theorem B0:∀m,m<7->∀a,a<2->∀b,b<2->∀i,i<12->2<=m->3<=2*m-a-b->i<2*m-a-b->
  (i<m-1/\i<m/\nx (2*m-a-b) i=i+1/\i+1<2*m-a-b/\i+1<m)\/
  (i=m-1/\b=0/\i<m/\nx (2*m-a-b) i=m/\m<2*m-a-b/\¬m<m/\2*m-1-b-m=m-1)\/
  (i=2*m-a-b-1/\a=0/\¬i<m/\2*m-1-b-i=0/\nx (2*m-a-b) i=0/\0<2*m-a-b/\0<m)\/
  (2*m-2-b-i+b+i+2=2*m/\2*m-2-b-i<=m-2/\nx (2*m-a-b) i<2*m-a-b/\
   ((i<m/\i=2*m-2-b-i+1/\((2*m-2-b-i+1=0/\a=1)\/(2*m-2-b-i+1=m-1/\b=1)))\/(¬i<m/\2*m-1-b-i=2*m-2-b-i+1/\¬((2*m-2-b-i+1=0/\a=1)\/(2*m-2-b-i+1=m-1/\b=1))))/\
   ((nx (2*m-a-b) i<m/\nx (2*m-a-b) i=2*m-2-b-i/\((2*m-2-b-i=0/\a=1)\/(2*m-2-b-i=m-1/\b=1)))\/(¬nx (2*m-a-b) i<m/\2*m-1-b-nx (2*m-a-b) i=2*m-2-b-i/\¬((2*m-2-b-i=0/\a=1)\/(2*m-2-b-i=m-1/\b=1))))):=by decide +kernel
theorem e9(C:dD m a b x l h)(hn:n=2*m-a-b)(hP:∀i,i<n->P i=cm m b x l h i){i:Nat}(hi:i<n):rV m a b n x l h P i:=by
 subst hn;rcases B0 m (Nat.lt_succ_of_le C.m6) a (Nat.lt_succ_of_le C.a1) b (Nat.lt_succ_of_le C.b1) i (by have:=C.m6;lia) C.m2 C.n3 hi with ⟨c,c1,e,c2,c3⟩|⟨c,c0,c1,e,c2,c3,e4⟩|⟨c,c0,c1,e4,e,c2,c3⟩|⟨c,c0,c2,d,g⟩
 ·refine .low c ?_ ?_
  ·rw[hP i hi];unfold cm;rw[if_pos c1]
  ·rw[e,hP _ c2];unfold cm;rw[if_pos c3]
 ·refine .right c c0 ?_ ?_
  ·rw[hP i hi];unfold cm;rw[if_pos c1,c]
  ·rw[e,hP _ c2];unfold cm;rw[if_neg c3,e4]
 ·refine .left c c0 ?_ ?_
  ·rw[hP i hi];unfold cm;rw[if_neg c1,e4]
  ·rw[e,hP _ c2];unfold cm;rw[if_pos c3]
 ·refine .high (2*m-2-b-i) c c0 ?_ ?_
  ·rw[hP i hi];unfold cm up;rcases d with ⟨d1,d2,d3⟩|⟨d1,d2,d3⟩
   ·rw[if_pos d1,if_pos d3,<-d2]
   ·rw[if_neg d1,if_neg d3,d2]
  ·rw[hP _ c2];unfold cm up;rcases g with ⟨d1,d2,d3⟩|⟨d1,d2,d3⟩
   ·rw[if_pos d1,if_pos d3,d2]
   ·rw[if_neg d1,if_neg d3,d2]
theorem iX(C:dD m a b x l h){k:Nat}(h0:k<m)(h1:k≠0\/a=0)(h2:k≠m-1\/b=0):l k<up m a b l h k:=by
 have:=C.lh k h0
 unfold up;rw[if_neg (by lia)];exact this
theorem wE{x0 x1 l0 l1 u0 u1:Int}(hx:x0<x1)(h0:l0<u0)(h1:l1<u1):0<turn (x0,l0) (x1,l1) (x0,u0)/\0<turn (x0,l0) (x1,l1) (x1,u1):=by
 have q0:=Int.mul_pos (show 0<x1-x0 by lia) (show 0<u0-l0 by lia)
 have q1:=Int.mul_pos (show 0<x1-x0 by lia) (show 0<u1-l1 by lia)
 constructor
 ·have e:turn (x0,l0) (x1,l1) (x0,u0)=(x1-x0)*(u0-l0):=by unfold turn;grind
  lia
 ·have e:turn (x0,l0) (x1,l1) (x1,u1)=(x1-x0)*(u1-l1):=by unfold turn;grind
  lia
theorem BF(C:dD m a b x l h)(hn:n=2*m-a-b)(hP:∀i,i<n->P i=cm m b x l h i){i j:Nat}(hi:i<n)(hj:j<n)
  (h1:i≠j)(h2:nx n i≠j)(h3:nx n j≠i):¬bo (P i) (P (nx n i)) (P j) (P (nx n j)):=by
 have C2:=C.m2;have C3:=C.n3;have Ca:=C.a1;have Cb:=C.b1;intro hm;have Si:=e9 C hn hP hi;have Sj:=e9 C hn hP hj;have xs:=C.xs;have LL:∀s t:Nat,s+1<t->t+1<m->∀p q p' q':Int,¬bo (x s,p) (x (s+1),q) (x t,p') (x (t+1),q'):=by
  intro s t hs ht p q p' q' hM;exact hM.sepX (k:=x (s+1)) (Int.le_of_lt (xs s (s+1) (Nat.lt_succ_self _) (by lia))) (Int.le_refl _) (xs (s+1) t hs (by lia)) (xs (s+1) (t+1) (by lia) (by lia))
 have LT:∀s:Nat,s+2<m->∀p q p' q':Int,q≠p'->¬bo (x s,p) (x (s+1),q) (x (s+1),p') (x (s+2),q'):=by
  intro s hs p q p' q' hq hM;exact hM.touchX (xs s (s+1) (Nat.lt_succ_self _) (by lia)) rfl (xs (s+1) (s+2) (Nat.lt_succ_self _) (by lia)) hq
 have LR:∀s:Nat,s+2<m->∀p q p' q':Int,¬bo (x s,p) (x (s+1),q) (x (m-1),p') (x (m-1),q'):=by
  intro s hs p q p' q' hM;exact hM.sepX (k:=x (s+1)) (Int.le_of_lt (xs s (s+1) (Nat.lt_succ_self _) (by lia))) (Int.le_refl _) (xs (s+1) (m-1) (by lia) (by lia)) (xs (s+1) (m-1) (by lia) (by lia))
 have VL:∀s:Nat,1<=s->s+1<m->∀p q p' q':Int,¬bo (x 0,p) (x 0,q) (x s,p') (x (s+1),q'):=by
  intro s hs ht p q p' q' hM;exact hM.sepX (k:=x 0) (Int.le_refl _) (Int.le_refl _) (xs 0 s (by lia) (by lia)) (xs 0 (s+1) (Nat.succ_pos _) (by lia))
 have VV:∀p q p' q':Int,¬bo (x 0,p) (x 0,q) (x (m-1),p') (x (m-1),q'):=by
  intro p q p' q' hM;exact hM.sepX (k:=x 0) (Int.le_refl _) (Int.le_refl _) (xs 0 (m-1) (by lia) (by lia)) (xs 0 (m-1) (by lia) (by lia))
 have LU:∀s t:Nat,s+1<m->t+1<m->((s≠t)\/((s≠0\/a=0)/\(s+1≠m-1\/b=0)))->¬bo (x s,l s) (x (s+1),l (s+1)) (x (t+1),up m a b l h (t+1)) (x t,up m a b l h t):=by
  intro s t hs ht EA hM;by_cases e1:s=t
  ·subst e1;have g0:=iX C (k:=s) (by lia) (by lia) (by lia)
   have g1:=iX C (k:=s+1) (by lia) (by lia) (by lia)
   have T:=wE (xs s (s+1) (Nat.lt_succ_self _) (by lia)) g0 g1
   exact hM.turns T.2 T.1
  by_cases e2:s+1<t
  ·exact LL s t e2 ht _ _ _ _ hM.swap2
  by_cases e3:t+1<s
  ·exact LL t s e3 hs _ _ _ _ hM.swap2.symm
  by_cases e4:t=s+1
  ·subst e4;have g1:=iX C (k:=s+1) (by lia) (by lia) (by lia)
   exact LT s (by lia) _ _ _ _ (by lia) hM.swap2
  ·have e5:s=t+1:=by lia
   subst e5;have g1:=iX C (k:=t+1) (by lia) (by lia) (by lia)
   exact LT t (by lia) _ _ _ _ (by lia) hM.swap2.symm
 have n2:∀i,i<n->nx n i=if i+1=n then 0 else i+1:=fun i _=>rfl
 rw[n2 i hi]at h2;rw[n2 j hj]at h3;cases Si with
 |low a1 e1 e2=>
  rw[e1,e2]at hm;cases Sj with
  |low b1 f1 f2=>
   rw[f1,f2]at hm;rcases Nat.lt_or_gt_of_ne h1 with g|g
   ·exact LL i j (by split at h2<;>lia) (by lia) _ _ _ _ hm
   ·exact LL j i (by split at h3<;>lia) (by lia) _ _ _ _ hm.symm
  |right b1 b2 f1 f2=>
   rw[f1,f2]at hm;exact LR i (by split at h2<;>lia) _ _ _ _ hm
  |high s b1 b2 f1 f2=>
   rw[f1,f2]at hm;refine LU i s (by lia) (by lia) ?_ hm
   by_cases g:i=s
   ·right;subst g;constructor
    ·by_cases g1:i=0
     ·right
      split at h3<;>lia
     ·exact .inl g1
    ·by_cases g1:i+1=m-1
     ·right
      split at h2<;>lia
     ·exact .inl g1
   ·exact .inl g
  |left b1 b2 f1 f2=>
   rw[f1,f2]at hm;exact VL i (by split at h3<;>lia) (by lia) _ _ _ _ hm.symm
 |right a1 a2 e1 e2=>
  rw[e1,e2]at hm;cases Sj with
  |low b1 f1 f2=>
   rw[f1,f2]at hm;exact LR j (by split at h3<;>lia) _ _ _ _ hm.symm
  |right b1 b2 f1 f2=>lia
  |high s b1 b2 f1 f2=>
   rw[f1,f2]at hm;exact LR s (by split at h2<;>lia) _ _ _ _ hm.symm.swap1
  |left b1 b2 f1 f2=>
   rw[f1,f2]at hm;exact VV _ _ _ _ hm.symm
 |high t a1 a2 e1 e2=>
  rw[e1,e2]at hm;cases Sj with
  |low b1 f1 f2=>
   rw[f1,f2]at hm;refine LU j t (by lia) (by lia) ?_ hm.symm
   by_cases g:j=t
   ·right;subst g;constructor
    ·by_cases g1:j=0
     ·right
      split at h2<;>lia
     ·exact .inl g1
    ·by_cases g1:j+1=m-1
     ·right
      split at h3<;>lia
     ·exact .inl g1
   ·exact .inl g
  |right b1 b2 f1 f2=>
   rw[f1,f2]at hm;exact LR t (by split at h3<;>lia) _ _ _ _ hm.swap1
  |high s b1 b2 f1 f2=>
   rw[f1,f2]at hm;rcases Nat.lt_or_gt_of_ne h1 with g|g
   ·exact LL s t (by split at h2<;>lia) (by lia) _ _ _ _ hm.symm.swap1.swap2
   ·exact LL t s (by split at h3<;>lia) (by lia) _ _ _ _ hm.swap1.swap2
  |left b1 b2 f1 f2=>
   rw[f1,f2]at hm;exact VL t (by split at h2<;>lia) (by lia) _ _ _ _ hm.symm.swap2
 |left a1 a2 e1 e2=>
  rw[e1,e2]at hm;cases Sj with
  |low b1 f1 f2=>
   rw[f1,f2]at hm;exact VL j (by split at h2<;>lia) (by lia) _ _ _ _ hm
  |right b1 b2 f1 f2=>
   rw[f1,f2]at hm;exact VV _ _ _ _ hm
  |high s b1 b2 f1 f2=>
   rw[f1,f2]at hm;exact VL s (by split at h3<;>lia) (by lia) _ _ _ _ hm.swap2
  |left b1 b2 f1 f2=>lia
theorem uV(C:dD m a b x l h)(hn:n=2*m-a-b)(hP:∀i,i<n->P i=cm m b x l h i){i j:Nat}(hi:i<n)(hj:j<n)
  (e:P i=P j):i=j:=by
 have C2:=C.m2;have C3:=C.n3;have Ca:=C.a1;have Cb:=C.b1;have xi:∀s t,s<m->t<m->x s=x t->s=t:=by
  intro s t hs ht he;rcases Nat.lt_trichotomy s t with g|g|g
  ·have:=C.xs s t g ht;lia
  ·exact g
  ·have:=C.xs t s g hs;lia
 rw[hP i hi,hP j hj]at e;unfold cm at e
 split at e<;>split at e
 ·exact xi _ _ (by lia) (by lia) (Y_ Uc e)
 ·have q:=xi _ _ (by lia) (by lia) (Y_ Uc e)
  have q2:=Y_ Vq e;simp only at q2;rw[q]at q2
  have:=C.lh (2*m-1-b-j) (by lia)
  lia
 ·have q:=xi _ _ (by lia) (by lia) (Y_ Uc e)
  have q2:=Y_ Vq e;simp only at q2;rw[q]at q2
  have:=C.lh j (by lia)
  lia
 ·have q:=xi _ _ (by lia) (by lia) (Y_ Uc e)
  lia
theorem BZ(C:dD m a b x l h)(hn:n=2*m-a-b)(hP:∀i,i<n->P i=cm m b x l h i){i:Nat}(hi:i<n):
  ¬Back (P i) (P (nx n i)) (P (nx n (nx n i))):=by
 have C2:=C.m2;have C3:=C.n3;have Ca:=C.a1;have Cb:=C.b1;intro hb;have xs:=C.xs;have Si:=e9 C hn hP hi;have Sj:=e9 C hn hP (aK hi);have n2:nx n i=if i+1=n then 0 else i+1:=rfl
 cases Si with
 |low a1 e1 e2=>
  have n3:nx n i=i+1:=by rw[n2,if_neg (by lia)]
  cases Sj with
  |low b1 f1 f2=>
   rw[e1,f1,f2,n3]at hb;have q2:=xs (i+1) (i+1+1) (Nat.lt_succ_self _) (by lia)
   have q1:=xs i (i+1) (Nat.lt_succ_self _) (by lia)
   exact hb.offX (Int.le_of_lt q1) (Int.le_of_lt q2) (Int.lt_trans q1 q2)
  |right b1 b2 f1 f2=>
   rw[e1,f1,f2]at hb;have q1:=xs i (m-1) a1 (by lia)
   exact hb.offX (Int.le_of_lt q1) (Int.le_refl _) q1
  |high s b1 b2 f1 f2=>
   rw[e1,e2,f2]at hb;have e5:s=i:=by lia
   subst e5;have q1:=xs s (s+1) (Nat.lt_succ_self _) (by lia)
   have q2:=iX C (k:=s) (by lia) (by lia) (by lia)
   exact hb.tip rfl (Int.ne_of_lt q1) (Int.ne_of_lt q2)
  |left b1 b2 f1 f2=>lia
 |right a1 a2 e1 e2=>
  have n3:nx n i=i+1:=by rw[n2,if_neg (by lia)]
  cases Sj with
  |low b1 f1 f2=>lia
  |right b1 b2 f1 f2=>lia
  |high s b1 b2 f1 f2=>
   rw[e1,e2,f2]at hb;have q1:=xs s (m-1) (by lia) (by lia)
   exact hb.symm.offX (Int.le_of_lt q1) (Int.le_refl _) q1
  |left b1 b2 f1 f2=>lia
 |high t a1 a2 e1 e2=>
  cases Sj with
  |low b1 f1 f2=>
   have n3:nx n i=0:=by rw[n2]at b1 ⊢;split at b1<;>first|lia| (rw[if_pos (by lia)])
   have n4:i+1=n:=by rw[n2]at n3;split at n3<;>lia
   have e5:t=0:=by lia
   subst e5;rw[e1,f1,f2,n3]at hb;have q1:=xs 0 1 Nat.zero_lt_one C2;have q2:=iX C (k:=1) C2 (.inl Nat.one_ne_zero) (by lia)
   exact hb.tip rfl (Int.ne_of_lt q1).symm (Int.ne_of_lt q2).symm
  |right b1 b2 f1 f2=>rw[n2]at b1;split at b1<;>lia
  |high s b1 b2 f1 f2=>
   have n3:nx n i=i+1:=by rw[n2]at b1 ⊢;split at b1<;>first|lia| (rw[if_neg (by lia)])
   have e5:t=s+1:=by lia
   subst e5;rw[e1,e2,f2]at hb;have q2:=xs (s+1) (s+1+1) (Nat.lt_succ_self _) (by lia)
   have q1:=xs s (s+1) (Nat.lt_succ_self _) (by lia)
   exact hb.symm.offX (Int.le_of_lt q1) (Int.le_of_lt q2) (Int.lt_trans q1 q2)
  |left b1 b2 f1 f2=>
   rw[e1,f1,f2]at hb;have q1:=xs 0 (t+1) (Nat.succ_pos _) (by lia)
   exact hb.symm.offX (Int.le_refl _) (Int.le_of_lt q1) q1
 |left a1 a2 e1 e2=>
  have n3:nx n i=0:=by rw[n2,if_pos (by lia)]
  cases Sj with
  |low b1 f1 f2=>
   rw[e1,e2,f2,n3]at hb;have q1:=xs 0 1 Nat.zero_lt_one C2;exact hb.offX (Int.le_refl _) (Int.le_of_lt q1) q1
  |right b1 b2 f1 f2=>lia
  |high s b1 b2 f1 f2=>lia
  |left b1 b2 f1 f2=>lia
theorem pI(C:dD m a b x l h)(hn:n=2*m-a-b)(hP:∀i,i<n->P i=cm m b x l h i):cu n P:=
 ⟨fun _ _ hi hj e=>uV C hn hP hi hj e,fun _ hi=>BZ C hn hP hi,fun _ _ hi hj h1 h2 h3=>BF C hn hP hi hj h1 h2 h3⟩
end FF
end
section
namespace FF
theorem bS{A B:List Pt}{i:Nat}:at' (A++B) i=if i<A.length then at' A i else at' B (i-A.length):=by
 unfold at';rw[Z0]
 split
 ·rw[ZL (by assumption),Z0]
 ·rw[Y1 (by lia),Z0]
theorem aF.rot{A B:List Pt}(F:aF (A++B)):aF (B++A):=by
 have hl:(B++A).length=(A++B).length:=by simp only[Z5];lia
 refine⟨hl ▸ F.lo,hl ▸ F.hi,?_⟩;rw[hl];have hn:(A++B).length=A.length+B.length:=Z5;by_cases hB:B.length=0
 ·have:B=[]:=Yo hB
  subst this;rw[ZT,Yc]
  have:=F.ok
  rw[ZT]at this;exact this
 by_cases hA:A.length=0
 ·have:A=[]:=Yo hA
  subst this;rw[ZT,Yc]
  have:=F.ok
  rw[Yc]at this;exact this
 refine F.ok.reindex (fun i=>if i<B.length then i+A.length else i-B.length) ?_ ?_ ?_ ?_
 ·intro i hi;split<;>lia
 ·intro i j hi hj;split<;>split<;>lia
 ·intro i hi;rw[bS,bS];by_cases c:i<B.length
  ·rw[if_pos c,if_pos c,if_neg (by lia)]
   congr 1;lia
  ·rw[if_neg c,if_neg c,if_pos (by lia)]
 ·intro i hi;unfold nx;rw[hn]at hi ⊢
  (repeat' split)<;>lia
theorem aF.rev{A:List Pt}(F:aF A):aF A.reverse:=by
 have hl:A.reverse.length=A.length:=Ze;refine⟨hl ▸ F.lo,hl ▸ F.hi,?_⟩;rw[hl];refine F.ok.reversed ?_;intro i hi;unfold at';rw[Z0,Z0,XM hi]
theorem eZ{A:List Pt}{g:Pt->Pt}{i:Nat}(hi:i<A.length):at' (A.map g) i=g (at' A i):=by
 unfold at';rw[Z0,Z0,Zn,Z2 hi]
 rfl
theorem qi{A:List Pt}{T:Tn}(h:T.det≠0):aF (A.map T.led)↔aF A:=by
 have hl:(A.map T.led).length=A.length:=Z6 _;constructor
 ·intro F;refine⟨hl ▸ F.lo,hl ▸ F.hi,?_⟩
  have:=F.ok
  rw[hl]at this;exact this.unled T (fun i hi=>eZ hi)
 ·intro F;refine⟨hl.symm ▸ F.lo,hl.symm ▸ F.hi,?_⟩;rw[hl];exact F.ok.led T h (fun i hi=>eZ hi)
noncomputable def bu(p q c:Pt):Prop:=∃u v:Int,0<u/\0<v/\u*p.1+v*q.1=(u+v)*c.1/\u*p.2+v*q.2=(u+v)*c.2
theorem bu.swap{p q c:Pt}(h:bu p q c):bu q p c:=by
 obtain⟨u,v,hu,hv,e1,e2⟩:=h;exact⟨v,u,hv,hu,by rw[Int.add_comm v u];lia,by rw[Int.add_comm v u];lia⟩
theorem bo.sub{p q c a b:Pt}(h:bu p q c)(k:bo p c a b):bo p q a b:=by
 obtain⟨u,v,hu,hv,e1,e2⟩:=h;obtain⟨u',v',s,t,hu',hv',hs,ht,hp,he,f1,f2⟩:=k;have w:0<u+v:=by lia
 refine⟨u'*(u+v)+v'*u,v'*v,s*(u+v),t*(u+v),?_,?_,?_,?_,?_,?_,?_,?_⟩
 ·have:=Int.mul_nonneg hu' (Int.le_of_lt w);have:=Int.mul_nonneg hv' (Int.le_of_lt hu);lia
 ·exact Int.mul_nonneg hv' (Int.le_of_lt hv)
 ·exact Int.mul_nonneg hs (Int.le_of_lt w)
 ·exact Int.mul_nonneg ht (Int.le_of_lt w)
 ·have:=Int.mul_pos hp w
  have e:u'*(u+v)+v'*u+v'*v=(u'+v')*(u+v):=by grind
  lia
 ·have e:u'*(u+v)+v'*u+v'*v=(u'+v')*(u+v):=by grind
  rw[e,he];grind
 ·have e:(u'*(u+v)+v'*u)*p.1+v'*v*q.1=(u+v)*(u'*p.1+v'*c.1):=by grind
  rw[e,f1];grind
 ·have e:(u'*(u+v)+v'*u)*p.2+v'*v*q.2=(u+v)*(u'*p.2+v'*c.2):=by grind
  rw[e,f2];grind
theorem Back.sub{p q c b:Pt}(h:bu p q c)(k:Back c q b):Back p q b:=by
 obtain⟨u,v,hu,hv,e1,e2⟩:=h;obtain⟨s,t,hs,ht,f1,f2⟩:=k;refine⟨s*u,t*(u+v),Int.mul_pos hs hu,Int.mul_pos ht (by lia),?_,?_⟩
 ·have e:u*(p.1-q.1)=(u+v)*(c.1-q.1):=by grind
  rw[Int.mul_assoc,e];grind
 ·have e:u*(p.2-q.2)=(u+v)*(c.2-q.2):=by grind
  rw[Int.mul_assoc,e];grind
theorem bu.noback{p q c:Pt}(h:bu p q c)(Gk:p≠q):¬Back p c q:=by
 intro k;obtain⟨u,v,hu,hv,e1,e2⟩:=h;obtain⟨s,t,hs,ht,f1,f2⟩:=k;have w:0<u+v:=by lia
 have a1:u*(p.1-c.1)=- (v*(q.1-c.1)):=by grind
 have a2:u*(p.2-c.2)=- (v*(q.2-c.2)):=by grind
 have w2:0<u*t+v*s:=by have:=Int.mul_pos hu ht;have:=Int.mul_pos hv hs;lia
 have z1:q.1-c.1=0:=bI w2 (by grind)
 have z2:q.2-c.2=0:=bI w2 (by grind)
 rw[z1]at a1;rw[z2]at a2;have z3:p.1-c.1=0:=bI hu (by lia)
 have z4:p.2-c.2=0:=bI hu (by lia)
 exact Gk (YT (by lia) (by lia))
theorem lK{p c q r:Pt}(hq:q≠c)(k:¬Back p c q)(hs:bu p c r)(hpc:p≠c):¬bo p r c q:=by
 intro m;obtain⟨u',v',s,t,hu',hv',hs',ht,hp,he,f1,f2⟩:=m;obtain⟨u,v,hu,hv,e1,e2⟩:=hs;have w:0<u+v:=by lia
 have g1:(u'*(u+v)+v'*u)*(p.1-c.1)=(u+v)*t*(q.1-c.1):=by
  have e:v'=s+t-u':=by lia
  subst e;grind
 have g2:(u'*(u+v)+v'*u)*(p.2-c.2)=(u+v)*t*(q.2-c.2):=by
  have e:v'=s+t-u':=by lia
  subst e;grind
 have w1:0<u'*(u+v)+v'*u:=by
  have q1:=Int.mul_nonneg hu' (Int.le_of_lt w);have q2:=Int.mul_nonneg hv' (Int.le_of_lt hu);by_cases z:u'=0
  ·have:=Int.mul_pos (show 0<v' by lia) hu;lia
  ·have:=Int.mul_pos (show 0<u' by lia) w;lia
 by_cases z:t=0
 ·subst z;have z1:p.1-c.1=0:=bI w1 (by rw[g1];grind)
  have z2:p.2-c.2=0:=bI w1 (by rw[g2];grind)
  exact hpc (YT (by lia) (by lia))
 ·exact k ⟨_,_,w1,Int.mul_pos w (by lia),g1,g2⟩
theorem bu.on{p q c:Pt}(h:bu p q c):On p q c:=by
 obtain⟨u,v,hu,hv,e1,e2⟩:=h;exact⟨u,v,by lia,by lia,by lia,e1,e2⟩
theorem o4{p q c:Pt}(h:bu p q c)(Gk:p≠q):c≠q:=by
 obtain⟨u,v,hu,hv,e1,e2⟩:=h;intro e;subst e;have z1:p.1-c.1=0:=bI hu (by grind)
 have z2:p.2-c.2=0:=bI hu (by grind)
 exact Gk (YT (by lia) (by lia))
theorem cu.insert{n:Nat}{P R:Nat->Pt}(F:cu n P)(n3:3<=n){c:Pt}(hc:bu (P (n-1)) (P 0) c)(h0:R 0=c)(h1:∀i,i<n->R (i+1)=P i):cu (n+1) R:=by
 have n0:P (n-1)≠P 0:=fun e=>by have:=F.inj _ _ (by lia) (by lia) e;lia
 have pn:n-1<n:=by lia
 have p0:0<n:=by lia
 have F9:nx n (n-1)=0:=by unfold nx;rw[if_pos (by lia)]
 have F8:nx n 0=1:=by unfold nx;rw[if_neg (by lia)]
 have old:∀i,i<n->nx n i=if i+1=n then 0 else i+1:=fun _ _=>rfl
 have cne:∀i,i<n->P i≠c:=by
  intro i hi e;by_cases i0:i=0
  ·subst i0;exact o4 hc n0 e.symm
  by_cases i1:i=n-1
  ·subst i1;exact o4 hc.swap (fun e=>n0 e.symm) e.symm
  by_cases i2:i=1
  ·
   subst i2
   have:=F.nob (n-1) pn
   have e1:=F9;have e2:=F8;rw[e1,e2,e]at this;obtain⟨u,v,hu,hv,g1,g2⟩:=hc;exact this ⟨u,u+v,hu,by lia,by grind,by grind⟩
  ·
   have e1:nx n (i-1)=i:=by unfold nx;rw[if_neg (by lia)];lia
   have e2:=F9;have e3:nx n (n-1)≠i-1:=by rw[e2];lia
   have:=F.nom (n-1) (i-1) pn (by lia) (by lia) e3 (by rw[e1];lia)
   rw[e1,e2,e]at this;exact this hc.on.meet2
 have new:∀i,i<n+1->nx (n+1) i=if i=n then 0 else i+1:=by
  intro i hi;unfold nx;(repeat' split)<;>lia
 have g0:nx (n+1) 0=0+1:=by rw[new _ (by lia),if_neg (by lia)]
 refine⟨fun i j hi hj e=>?_,fun i hi=>?_,fun i j hi hj k1 k2 k3=>?_⟩
 ·by_cases i0:i=0
  ·by_cases j0:j=0
   ·lia
   ·obtain⟨j',rfl⟩:=Nat.exists_eq_add_one_of_ne_zero j0;subst i0;rw[h0,h1 _ (by lia)]at e
    exact absurd e.symm (cne _ (by lia))
  ·obtain⟨i',rfl⟩:=Nat.exists_eq_add_one_of_ne_zero i0;by_cases j0:j=0
   ·subst j0;rw[h0,h1 _ (by lia)]at e
    exact absurd e (cne _ (by lia))
   ·obtain⟨j',rfl⟩:=Nat.exists_eq_add_one_of_ne_zero j0;rw[h1 _ (by lia),h1 _ (by lia)]at e
    have:=F.inj _ _ (by lia) (by lia) e
    lia
 ·
  by_cases i0:i=0
  ·subst i0;have e1:=g0;have e2:nx (n+1) (0+1)=1+1:=by rw[new _ (by lia),if_neg (by lia)]
   rw[e1,e2,h0,h1 _ (by lia),h1 _ (by lia)]
   intro k
   have:=F.nob (n-1) pn
   have f1:=F9;have f2:=F8;rw[f1,f2]at this;exact this (Back.sub hc k)
  ·obtain⟨i',rfl⟩:=Nat.exists_eq_add_one_of_ne_zero i0;by_cases i1:i'=n-1
   ·subst i1;have e1:nx (n+1) (n-1+1)=0:=by rw[new _ (by lia),if_pos (by lia)]
    have e2:=g0;rw[e1,e2,h0,h1 _ (by lia),h1 _ (by lia)]
    exact hc.noback n0
   by_cases i2:i'=n-2
   ·subst i2;have e1:nx (n+1) (n-2+1)=n-1+1:=by rw[new _ (by lia),if_neg (by lia)];lia
    have e2:nx (n+1) (n-1+1)=0:=by rw[new _ (by lia),if_pos (by lia)]
    rw[e1,e2,h0,h1 _ (by lia),h1 _ (by lia)]
    intro k
    have:=F.nob (n-2) (by lia)
    have f1:nx n (n-2)=n-1:=by unfold nx;rw[if_neg (by lia)];lia
    have f2:=F9;rw[f1,f2]at this;exact this (Back.sub hc.swap k.symm).symm
   ·have e1:nx (n+1) (i'+1)=(i'+1)+1:=by rw[new _ (by lia),if_neg (by lia)]
    have e2:nx (n+1) (i'+1+1)=(i'+2)+1:=by rw[new _ (by lia),if_neg (by lia)]
    rw[e1,e2,h1 _ (by lia),h1 _ (by lia),h1 _ (by lia)]
    have:=F.nob i' (by lia)
    have f1:nx n i'=i'+1:=by unfold nx;rw[if_neg (by lia)]
    have f2:nx n (i'+1)=i'+2:=by unfold nx;rw[if_neg (by lia)]
    rw[f1,f2]at this;exact this
 ·
  have f0:=F9;have gn:nx (n+1) n=0:=by rw[new _ (by lia),if_pos (by lia)]
  have hRn:R n=P (n-1):=by have:=h1 (n-1) (by lia);rwa [show n-1+1=n by lia]at this
  have main:∀i j,i<n+1->j<n+1->i≠j->nx (n+1) i≠j->nx (n+1) j≠i->i<j->¬bo (R i) (R (nx (n+1) i)) (R j) (R (nx (n+1) j)):=by
   intro i j hi hj k1 k2 k3 hij;by_cases i0:i=0
   ·
    subst i0;rw[g0]at k2 ⊢;rw[h0,h1 _ (by lia)]
    obtain⟨j',rfl⟩:∃j',j=j'+1:=⟨j-1,by lia⟩
    have j1:j'+1≠n:=fun e=>by rw[e,gn]at k3;exact k3 rfl
    have e1:nx (n+1) (j'+1)=(j'+1)+1:=by rw[new _ (by lia),if_neg (by lia)]
    rw[e1,h1 _ (by lia),h1 _ (by lia)]
    by_cases j2:j'+1=n-1
    ·
     have:=F.nob j' (by lia)
     have f1:nx n j'=n-1:=by unfold nx;rw[if_neg (by lia)];lia
     rw[f1,f0]at this;intro m;rw[j2]at m;refine lK (p:=P 0) (c:=P (n-1)) (q:=P j') (r:=c) (fun e=>?_) (fun k=>this k.symm) hc.swap (fun e=>n0 e.symm) m.swap1.swap2
     have:=F.inj _ _ (by lia) (by lia) e;lia
    ·intro m;have f1:nx n j'=j'+1:=by unfold nx;rw[if_neg (by lia)]
     have:=F.nom (n-1) j' (by lia) (by lia) (by lia) (by rw[f0];lia) (by rw[f1];lia)
     rw[f0,f1]at this;exact this (bo.sub hc.swap m.swap1).swap1
   ·obtain⟨i',rfl⟩:∃i',i=i'+1:=⟨i-1,by lia⟩
    obtain⟨j',rfl⟩:∃j',j=j'+1:=⟨j-1,by lia⟩
    have e2:nx (n+1) (i'+1)=(i'+1)+1:=by rw[new _ (by lia),if_neg (by lia)]
    have f2:nx n i'=i'+1:=by unfold nx;rw[if_neg (by lia)]
    rw[e2]at k2 ⊢;rw[h1 _ (by lia),h1 _ (by lia)]
    by_cases j1:j'+1=n
    ·
     rw[j1,gn,hRn,h0];intro m;by_cases i1:i'=0
     ·subst i1
      have:=F.nob (n-1) pn
      rw[f0,f2]at this;refine lK (p:=P (n-1)) (c:=P 0) (q:=P (0+1)) (r:=c) (fun e=>?_) this hc n0 m.symm
      have:=F.inj _ _ (by lia) (by lia) e;lia
     ·have:=F.nom (n-1) i' (by lia) (by lia) (by lia) (by rw[f0];lia) (by rw[f2];lia)
      rw[f0,f2]at this;exact this (bo.sub hc m.symm)
    ·have e1:nx (n+1) (j'+1)=(j'+1)+1:=by rw[new _ (by lia),if_neg (by lia)]
     rw[e1]at k3 ⊢;rw[h1 _ (by lia),h1 _ (by lia)]
     have f1:nx n j'=j'+1:=by unfold nx;rw[if_neg (by lia)]
     have:=F.nom i' j' (by lia) (by lia) (by lia) (by rw[f2];lia) (by rw[f1];lia)
     rw[f1,f2]at this;exact this
  rcases Nat.lt_or_gt_of_ne k1 with g|g
  ·exact main i j hi hj k1 k2 k3 g
  ·intro m;exact main j i hj hi (fun e=>k1 e.symm) k3 k2 g m.symm
theorem aF.cons{cs:List Pt}(F:aF cs)(FM:cs.length<=11){c:Pt}(hc:bu (at' cs (cs.length-1)) (at' cs 0) c):aF (c::cs):=by
 refine⟨by have:=F.lo;rw[Zg];lia,by rw[Zg];lia,?_⟩
 rw[Zg];exact F.ok.insert F.lo hc rfl (fun i _=>rfl)
theorem aF.flat{A B:List Pt}(F:aF (A++B))(FM:(A++B).length<=11){c:Pt}(hc:bu (at' (B++A) ((A++B).length-1)) (at' (B++A) 0) c):aF (A++[c]++B):=by
 have hl:(B++A).length=(A++B).length:=by simp only[Z5];lia
 have:=F.rot.cons (by lia) (c:=c) (by rw[hl];exact hc)
 have h2:aF ((c::B)++A):=by rw[Wd];exact this
 have h3:=h2.rot;rw[Y2];exact h3
end FF
end
section
namespace FF
noncomputable def cr(p q:Pt):Int:=p.1*q.2-q.1*p.2
noncomputable def pa(p:Pt):List Pt->Pt->Int
 | [],f=>cr p f
 |q::r,f=>cr p q+pa q r f
noncomputable def area:List Pt->Int
 | []=>0
 |c::r=>pa c r c
theorem kB:∀(r:List Pt) (p q:Pt) (r':List Pt) (f:Pt),pa p (r++q::r') f=pa p r q+pa q r' f
 | [],p,q,r',f=>rfl
 |x::r,p,q,r',f=>by
  show cr p x+pa x (r++q::r') f=cr p x+pa x r q+pa q r' f;rw[kB r x q r' f];lia
theorem f_:∀(A B:List Pt),area (A++B)=area (B++A)
 | [],B=>by rw[Yc,ZT]
 |a::A,[]=>by rw[Yc,ZT]
 |a::A,b::B=>by
  show pa a (A++b::B) a=pa b (B++a::A) b;rw[kB,kB];lia
theorem oS(p q:Pt):cr q p=- cr p q:=by unfold cr;grind
theorem wJ:∀(r:List Pt) (p f:Pt),pa f r.reverse p=- pa p r f
 | [],p,f=>oS p f
 |x::r,p,f=>by
  rw[X3,kB,wJ r x f]
  show-pa x r f+cr x p=-(cr p x+pa x r f)
  rw[oS p x];lia
theorem iF:∀(A:List Pt),area A.reverse=- area A
 | []=>rfl
 |a::A=>by
  rw[X3,f_];show pa a A.reverse a=- pa a A a;exact wJ A a a
theorem wS(T:Tn):∀(r:List Pt) (p f:Pt),pa (T.led p) (r.map T.led) (T.led f)=T.det*pa p r f +
  ((T.e*(T.c*f.1+T.d*f.2)-T.f*(T.a*f.1+T.b*f.2))-(T.e*(T.c*p.1+T.d*p.2)-T.f*(T.a*p.1+T.b*p.2)))
 | [],p,f=>by
  show cr (T.led p) (T.led f)=_;simp only[pa,cr,Tn.led,Tn.det];grind
 |x::r,p,f=>by
  show cr (T.led p) (T.led x)+pa (T.led x) (r.map T.led) (T.led f)=T.det*(cr p x+pa x r f)+_;rw[wS T r x f];generalize pa x r f=z;simp only[cr,Tn.led,Tn.det];grind
theorem zj(T:Tn):∀A:List Pt,area (A.map T.led)=T.det*area A
 | []=>by show (0:Int)=T.det*0;lia
 |a::A=>by
  show pa (T.led a) (A.map T.led) (T.led a)=T.det*pa a A a;rw[wS];lia
noncomputable def eO(p:Pt):List Pt->Pt
 | []=>p
 |q::r=>eO q r
theorem uk:∀(r:List Pt) (p f g:Pt),pa p r f-cr (eO p r) f=pa p r g-cr (eO p r) g
 | [],p,f,g=>by simp only[pa,eO];lia
 |x::r,p,f,g=>by
  have:=uk r x f g
  simp only[pa,eO];lia
theorem lZ:∀(r:List Pt) (p:Pt),at' (p::r) r.length=eO p r
 | [],p=>rfl
 |x::r,p=>by
  show at' (x::r) r.length=eO x r;exact lZ r x
theorem On.cr{p q c:Pt}(h:On p q c):cr p c+FF.cr c q=FF.cr p q:=by
 have:=h.turn
 unfold FF.turn at this;unfold FF.cr;grind
theorem xw{cs:List Pt}{c:Pt}(h0:cs≠[])(hc:On (at' cs (cs.length-1)) (at' cs 0) c):area (c::cs)=area cs:=by
 match cs,h0 with
 |q::r,_=>
  have e1:at' (q::r) ((q::r).length-1)=eO q r:=by
   rw[Zg,Nat.add_sub_cancel];exact lZ r q
  rw[e1]at hc;have e2:at' (q::r) 0=q:=rfl;rw[e2]at hc;have k:=hc.cr;have l:=uk r q c q;show cr c q+pa q r c=pa q r q;lia
theorem wX{A B:List Pt}{c:Pt}(h0:A++B≠[])(hc:On (at' (B++A) ((A++B).length-1)) (at' (B++A) 0) c):area (A++[c]++B)=area (A++B):=by
 have hl:(B++A).length=(A++B).length:=by simp only[Z5];lia
 rw[Y2,f_ A ([c]++B),f_ A B];show area (c::(B++A))=_;refine xw ?_ (by rw[hl];exact hc)
 intro e
 have:=Y_ Wv e
 rw[hl]at this;exact h0 (Yo this)
structure Col where
 x:Int
 l:Int
 u:Int
noncomputable def Col.lo(c:Col):Pt:=(c.x,c.l)
noncomputable def Col.hi(c:Col):Pt:=(c.x,c.u)
noncomputable def loop(c:Col):List Col->Int
 | []=>cr c.lo c.hi
 |d::r=>cr c.lo d.lo+loop d r+cr d.hi c.hi
noncomputable def m5(c:Col):List Col->Prop
 | []=>True
 |d::r=>c.x<d.x/\c.l<=c.u/\d.l<=d.u/\c.l+d.l<c.u+d.u/\m5 d r
theorem rO:∀(r:List Col) (c:Col),m5 c r->r≠[]->0<loop c r-cr c.lo c.hi
 | [d],c,⟨h1,h2,h3,h4,_⟩,_=>by
  have q:=Int.mul_pos (show 0<d.x-c.x by lia) (show 0<(c.u+d.u)-(c.l+d.l) by lia)
  have e:loop c [d]-cr c.lo c.hi=(d.x-c.x)*((c.u+d.u)-(c.l+d.l)):=by
   simp only[loop,cr,Col.lo,Col.hi];grind
  lia
 |d::d'::r,c,⟨h1,h2,h3,h4,h5⟩,_=>by
  have ih:=rO (d'::r) d h5 (by simp)
  have q:=Int.mul_pos (show 0<d.x-c.x by lia) (show 0<(c.u+d.u)-(c.l+d.l) by lia)
  have e:loop c (d::d'::r)-cr c.lo c.hi=(loop d (d'::r)-cr d.lo d.hi)+(d.x-c.x)*((c.u+d.u)-(c.l+d.l)):=by
   show cr c.lo d.lo+loop d (d'::r)+cr d.hi c.hi-cr c.lo c.hi=_;generalize loop d (d'::r)=z;simp only[cr,Col.lo,Col.hi];grind
  lia
theorem uK:∀(r:List Col) (c:Col) (f:Pt),pa c.lo (r.map Col.lo++(c::r).reverse.map Col.hi) f=loop c r+cr c.hi f
 | [],c,f=>by simp only[Wn,Yc,X3,List.reverse_nil,Y5,pa,loop]
 |d::r,c,f=>by
  have ih:=uK r d c.hi;have e:(d::r).map Col.lo++(c::d::r).reverse.map Col.hi=d.lo::((r.map Col.lo++(d::r).reverse.map Col.hi)++[c.hi]):=by
   rw[X3 (a:=c),ZU,Y5,Wd,Y2];rfl
  rw[e];show cr c.lo d.lo+pa d.lo (_++[c.hi]) f=_;rw[kB,ih];show _+(loop d r+cr d.hi c.hi+cr c.hi f)=cr c.lo d.lo+loop d r+cr d.hi c.hi+cr c.hi f;lia
theorem Ci(p:Pt):cr p p=0:=by unfold cr;lia
theorem xZ{c:Col}{r:List Col}(h:m5 c r)(hr:r≠[]):0<area ((c::r).map Col.lo++(c::r).reverse.map Col.hi):=by
 show 0<pa c.lo (r.map Col.lo++(c::r).reverse.map Col.hi) c.lo;rw[uK,oS c.lo c.hi]
 have:=rO r c h hr
 lia
theorem qN(A B:List Pt)(p:Pt):area (A++p::p::B)=area (A++p::B):=by
 rw[f_,f_ A];show cr p p+pa p (B++A) p=pa p (B++A) p;rw[Ci];lia
end FF
end
section
namespace FF
noncomputable def iN(a c b:Pt):Int:=(a.1-c.1)*(b.1-c.1)+(a.2-c.2)*(b.2-c.2)
noncomputable def fu(a c b:Pt):Bool:=turn a c b==0&&decide (0<iN a c b)
theorem mC{a c b:Pt}(hb:b≠c):Back a c b↔fu a c b=true:=by
 unfold fu;rw[ZA,beq_iff_eq,decide_eq_true_eq];have nb:¬(b.1-c.1=0/\b.2-c.2=0):=fun e=>hb (YT (by lia) (by lia))
 have hn:=sU nb;constructor
 ·intro ⟨s,t,hs,ht,e1,e2⟩;constructor
  ·apply bI hs;unfold turn
   have:s*((c.1-a.1)*(b.2-a.2)-(c.2-a.2)*(b.1-a.1))=-(s*(a.1-c.1))*(b.2-c.2)+(s*(a.2-c.2))*(b.1-c.1):=by grind
   rw[this,e1,e2];grind
  ·apply dF hs
   have:s*iN a c b=t*((b.1-c.1)*(b.1-c.1)+(b.2-c.2)*(b.2-c.2)):=by
    have e:s*iN a c b=(s*(a.1-c.1))*(b.1-c.1)+(s*(a.2-c.2))*(b.2-c.2):=by unfold iN;grind
    rw[e,e1,e2];grind
   rw[this];exact Int.mul_pos ht hn
 ·intro ⟨h1,h2⟩;refine⟨_,_,hn,h2,?_,?_⟩
  ·unfold turn at h1;unfold iN;grind
  ·unfold turn at h1;unfold iN;grind
noncomputable def eG(a n b:Int):Bool:=decide (a<=n/\n<=b)||decide (b<=n/\n<=a)
noncomputable def dw(a b c:Pt):Bool:=eG a.1 c.1 b.1&&eG a.2 c.2 b.2&&(turn a b c==0)
theorem zY{a b c:Pt}:On a b c↔dw a b c=true:=by
 unfold dw eG;simp only[ZA,Xp,decide_eq_true_eq,beq_iff_eq];constructor
 ·intro h;exact⟨⟨h.btw1,h.btw2⟩,h.turn⟩
 ·intro ⟨⟨h1,h2⟩,h3⟩;exact vU h3 h1 h2
noncomputable def iK(a b c d:Pt):Bool:=decide (turn a b c*turn a b d<0)
noncomputable def cg(a b c d:Pt):Bool:=dw a b c||dw a b d||dw c d a||dw c d b||(iK a b c d&&iK c d a b)
theorem iA{a b c d:Pt}:bo a b c d↔cg a b c d=true:=by
 unfold cg iK;simp only[ZA,Xp,decide_eq_true_eq,<-zY];constructor
 ·intro h;rcases vL h with h|h|h|h|h
  ·exact .inl (.inl (.inl (.inl h)))
  ·exact .inl (.inl (.inl (.inr h)))
  ·exact .inl (.inl (.inr h))
  ·exact .inl (.inr h)
  ·exact .inr h
 ·intro h;rcases h with (((h|h)|h)|h)|⟨h,k⟩
  ·exact h.meet1
  ·exact h.meet2
  ·exact h.meet3
  ·exact h.meet4
  ·exact qb h k
noncomputable def ng(cs:List Pt):Bool:=
 let n:=cs.length
 decide (3<=n)&&decide (n<=12)&&
 (Z4 n).all (fun i=>(Z4 n).all fun j=>(i==j)||!(at' cs i==at' cs j))&&
 (Z4 n).all (fun i=>!fu (at' cs i) (at' cs (nx n i)) (at' cs (nx n (nx n i))))&&
 (Z4 n).all (fun i=>(Z4 n).all fun j=>(i==j)||(nx n i==j)||(nx n j==i)||!cg (at' cs i) (at' cs (nx n i)) (at' cs j) (at' cs (nx n j)))
theorem mM{cs:List Pt}(h:ng cs=true):aF cs:=by
 unfold ng at h;simp only[ZA,decide_eq_true_eq,Yt,Zy,Xp,beq_iff_eq,Yr]at h;obtain⟨⟨⟨⟨h1,h2⟩,h3⟩,h4⟩,h5⟩:=h;have inj:∀i j,i<cs.length->j<cs.length->at' cs i=at' cs j->i=j:=by
  intro i j hi hj e;rcases h3 i hi j hj with q|q
  ·exact q
  ·exact absurd e (X8.mp q)
 refine⟨h1,h2,inj,?_,?_⟩
 ·intro i hi k
  have:=h4 i hi
  rw[mC]at k
  ·rw[k]at this;exact ZM this
  ·intro e
   have:=inj _ _ (aK (aK hi)) (aK hi) e
   unfold nx at this
   (repeat' split at this)<;>lia
 ·intro i j hi hj k1 k2 k3 k;rcases h5 i hi j hj with ((q|q)|q)|q
  ·exact k1 q
  ·exact k2 q
  ·exact k3 q
  ·rw[iA.mp k]at q;exact ZM q
structure Good(cs:List Pt):Prop where
 fe:aF cs
 ar:area cs≠0
theorem Good.rot{A B:List Pt}(G:Good (A++B)):Good (B++A):=⟨G.fe.rot,by rw[f_];exact G.ar⟩
theorem Good.turnBy{A:List Pt}(G:Good A)(t:Nat):Good (A.drop t++A.take t):=by
 have:Good (A.take t++A.drop t):=by rw[ZC];exact G
 exact this.rot
theorem Good.rev{A:List Pt}(G:Good A):Good A.reverse:=⟨G.fe.rev,by rw[iF];have:=G.ar;lia⟩
theorem Good.led{A:List Pt}(G:Good A){T:Tn}(h:T.det≠0):Good (A.map T.led):=
 ⟨(qi h).mpr G.fe,by rw[zj];intro e;rcases Int.mul_eq_zero.mp e with q|q;exact h q;exact G.ar q⟩
noncomputable def lg:Tn:=⟨0,1,1,0,0,0⟩
noncomputable def swp(p:Pt):Pt:=(p.2,p.1)
theorem Good.swap{A:List Pt}(G:Good A):Good (A.map swp):=by
 have e:swp=lg.led:=by
  funext p
  simp only[swp,lg,Tn.led];exact YT (by simp) (by simp)
 rw[e];exact G.led (by decide)
noncomputable def cell(ns:List Int)(k:Nat):Int:=ns.getD k 0
noncomputable def draw(c k bound:Int):Int:=((c%2147483647+977*k+1)*48271%2147483647+40692*(k+3))*69621%2147483629/8%bound
theorem dE(c k:Int){b:Int}(h:0<b):0<=draw c k b/\draw c k b<b:=⟨Int.emod_nonneg _ (by lia),Int.emod_lt_of_pos _ h⟩
noncomputable def xAt(c:Int):Nat->Int
 |0=>0
 |k+1=>xAt c k+1+draw c k 3
noncomputable def dk(c:Int)(k:Nat):Int:=draw c k 9-4
noncomputable def bL(c d:Int)(k:Nat):Int:=dk c k+1+draw d k 5
theorem nM(c:Int):∀{i j:Nat},i<j->xAt c i<xAt c j:=by
 have one:∀k,xAt c k<xAt c (k+1):=fun k=>by
  have:=dE c k (show (0:Int)<3 by decide)
  simp only[xAt];lia
 intro i j h
 induction j with
 |zero=>lia
 |succ j ih=>
  by_cases e:i=j
  ·subst e;exact one i
  ·exact Int.lt_trans (ih (by lia)) (one j)
noncomputable def bC(lows highs:List Pt)(ah:Int):List Pt:=
 let top:=if ah%2=1 then highs.eraseIdx 0 else highs
 let top2:=if ah>1/\lows.length+top.length>3 then top.dropLast else top
 lows++top2.reverse
noncomputable def loL(m:Nat)(x l:Nat->Int):List Pt:=(Z4 m).map fun k=>(x k,l k)
theorem ba{m:Nat}{x l:Nat->Int}:(loL m x l).length=m:=by unfold loL;rw[Z6,Zd]
theorem d_{m:Nat}{x l:Nat->Int}{k:Nat}(h:k<m):at' (loL m x l) k=(x k,l k):=by
 unfold at' loL;rw[Z0,Zn,YR h];rfl
theorem cQ{A:List Pt}{k i:Nat}:at' (A.drop k) i=at' A (k+i):=by
 unfold at';rw[Z0,YM,Z0]
theorem dr{A:List Pt}{k i:Nat}(h:i<k):at' (A.take k) i=at' A i:=by
 unfold at';rw[Z0,Yx h,Z0]
theorem kr{A:List Pt}{i:Nat}(h:i<A.length):at' A.reverse i=at' A (A.length-1-i):=by
 unfold at';rw[Z0,XM h,Z0]
theorem i_{A B:List Pt}(hl:A.length=B.length)(h:∀i,i<A.length->at' A i=at' B i):A=B:=by
 apply XY hl;intro i h1 h2
 have:=h i h1
 unfold at' at this;rw[Z0,Z0,Z2 h1,Z2 h2]at this;exact this
theorem ku{m:Nat}{x l h:Nat->Int}{ah:Int}(m2:2<=m):∃a b:Nat,a<=1/\b<=1/\3<=2*m-a-b/\
  bC (loL m x l) (loL m x h) ah=loL m x l++(((loL m x h).drop a).take (m-a-b)).reverse:=by
 have e1:(if ah%2=1 then (loL m x h).eraseIdx 0 else loL m x h)=(loL m x h).drop (if ah%2=1 then 1 else 0):=by
  split
  ·rw[YW,Ux]
  ·rw[V2]
 have ha:(if ah%2=1 then 1 else 0)<=1:=by split<;>lia
 unfold bC;rw[e1];generalize (if ah%2=1 then 1 else 0)=a at ha
 have hl:((loL m x h).drop a).length=m-a:=by rw[Zu,ba]
 simp only[hl,ba];by_cases c:ah>1/\m+(m-a)>3
 ·refine⟨a,1,ha,by lia,by lia,?_⟩
  rw[if_pos c,XN,hl]
 ·by_cases c2:ah>1
  ·refine⟨a,0,ha,by lia,by lia,?_⟩
   rw[if_neg c,XE (by lia)]
  ·refine⟨a,0,ha,by lia,by lia,?_⟩
   rw[if_neg c,XE (by lia)]
theorem iE{m a b:Nat}{x h:Nat->Int}(ha:a+b<=m):(((loL m x h).drop a).take (m-a-b)).length=m-a-b:=by
 rw[Zi,Zu,ba];lia
theorem kG{m a b:Nat}{x l h:Nat->Int}(C:dD m a b x l h){i:Nat}(hi:i<2*m-a-b):
  at' (loL m x l++(((loL m x h).drop a).take (m-a-b)).reverse) i=cm m b x l h i:=by
 have:=C.m2;have:=C.a1;have:=C.b1
 rw[bS,ba];unfold cm
 split
 ·rw[d_ (by assumption)]
 ·have hl:(((loL m x h).drop a).take (m-a-b)).length=m-a-b:=iE (by lia)
  rw[kr (by lia),hl,dr (by lia),cQ,d_ (by lia)]
  have:a+(m-a-b-1-(i-m))=2*m-1-b-i:=by lia
  rw[this]
theorem kZ(x l u:Nat->Int):∀(m k:Nat),(∀i,k<=i->i<k+m->x i<x (i+1)/\l i<=u i/\l (i+1)<=u (i+1)/\l i+l (i+1)<u i+u (i+1))->
  m5 ⟨x k,l k,u k⟩ ((V9 (k+1) m).map fun k=>(⟨x k,l k,u k⟩:Col))
 |0,k,_=>trivial
 |m+1,k,H=>by
  rw[Vk,Y5];have h0:=H k (Nat.le_refl _) (by lia)
  refine⟨h0.1,h0.2.1,h0.2.2.1,h0.2.2.2,?_⟩;exact kZ x l u m (k+1) (fun i h1 h2=>H i (by lia) (by lia))
theorem yC{m a b:Nat}{x l h:Nat->Int}(C:dD m a b x l h):0<area (loL m x l++(loL m x (up m a b l h)).reverse):=by
 have m2:=C.m2;have e:loL m x l++(loL m x (up m a b l h)).reverse=((⟨x 0,l 0,up m a b l h 0⟩:Col)::(V9 1 (m-1)).map fun k=>(⟨x k,l k,up m a b l h k⟩:Col)).map Col.lo++
   ((⟨x 0,l 0,up m a b l h 0⟩:Col)::(V9 1 (m-1)).map fun k=>(⟨x k,l k,up m a b l h k⟩:Col)).reverse.map Col.hi:=by
  have q:∀f:Nat->Int,loL m x f=(x 0,f 0)::(V9 1 (m-1)).map fun k=>(x k,f k):=by
   intro f;unfold loL;rw[U2,show m=(m-1)+1 by lia,Vk,Y5]
   rfl
  rw[q,q,<-XZ.symm,Y5,Y5,YK,YK]
  rfl
 rw[e];refine xZ ?_ ?_
 ·refine kZ x l (up m a b l h) (m-1) 0 ?_;intro i _ hi;have lh0:=C.lh i (by lia)
  have lh1:=C.lh (i+1) (by lia)
  have n3:=C.n3;have:=C.a1;have:=C.b1;refine⟨C.xs i (i+1) (by lia) (by lia),?_,?_,?_⟩
  ·unfold up;split<;>lia
  ·unfold up;split<;>lia
  ·unfold up;split<;>split<;>lia
 ·intro q
  have:=Y_ Wv q
  simp at this;lia
theorem tW{m a b:Nat}{x l h:Nat->Int}(C:dD m a b x l h):area (loL m x l++(((loL m x h).drop a).take (m-a-b)).reverse)=area (loL m x l++(loL m x (up m a b l h)).reverse):=by
 have m2:=C.m2;have a1:=C.a1;have b1:=C.b1;have n3:=C.n3
 let mid:List Pt:=((loL m x h).drop 1).take (m-2)
 have midl:mid.length=m-2:=by show (TX _ _).length=_;rw[Zi,Zu,ba];lia
 have midat:∀i,i<m-2->at' mid i=(x (i+1),h (i+1)):=by
  intro i hi;show at' (TX _ _) i=_;rw[dr hi,cQ,d_ (by lia),Nat.add_comm 1 i]
 have top:((loL m x h).drop a).take (m-a-b)=(if a=1 then [] else [(x 0,h 0)])++(mid++(if b=1 then [] else [(x (m-1),h (m-1))])):=by
  have hl:=iE (m:=m) (a:=a) (b:=b) (x:=x) (h:=h) (by lia)
  apply i_
  ·rw[hl,Z5,Z5,midl]
   split<;>split<;>simp<;>lia
  ·intro i hi;rw[hl]at hi;rw[dr hi,cQ,d_ (by lia),bS]
   by_cases c:a=1
   ·rw[if_pos c];rw[if_neg (by simp),bS,midl]
    simp only[YL,Nat.sub_zero];by_cases c2:i<m-2
    ·rw[if_pos c2,midat i c2,c,Nat.add_comm]
    ·rw[if_neg c2,if_neg (by lia)]
     have:i-(m-2)=0:=by lia
     rw[this]
     have:a+i=m-1:=by lia
     rw[this];rfl
   ·rw[if_neg c];have a0:a=0:=by lia
    subst a0;by_cases c1:i=0
    ·subst c1;rfl
    ·rw[if_neg (by simp only[YS];lia),bS,midl]
     simp only[YS,Nat.zero_add];by_cases c2:i-1<m-2
     ·rw[if_pos c2,midat _ c2,show i-1+1=i by lia]
     ·rw[if_neg c2,if_neg (by lia)]
      have:i-1-(m-2)=0:=by lia
      rw[this]
      have:i=m-1:=by lia
      rw[this];rfl
 have full:loL m x (up m a b l h)=(x 0,up m a b l h 0)::(mid++[(x (m-1),up m a b l h (m-1))]):=by
  apply i_
  ·rw[ba,Zg,Z5,midl];simp;lia
  ·intro i hi;rw[ba]at hi;rw[d_ hi];by_cases c1:i=0
   ·subst c1;rfl
   ·obtain⟨j,rfl⟩:∃j,i=j+1:=⟨i-1,by lia⟩
    show _=at' (mid++_) j;rw[bS,midl];by_cases c2:j<m-2
    ·rw[if_pos c2,midat _ c2];unfold up;rw[if_neg (by lia)]
    ·rw[if_neg c2];have e2:j+1=m-1:=by lia
     rw[e2]
     have:j-(m-2)=0:=by lia
     rw[this];rfl
 have low:loL m x l=(x 0,l 0)::(loL m x l).tail:=by
  have hl:(loL m x l).length=m:=ba
  match q:loL m x l,hl with
  | [],hl=>exact absurd hl (by simp only[YL];lia)
  |p::r,_=>
   have:=d_ (m:=m) (x:=x) (l:=l) (k:=0) (by lia)
   rw[q]at this;have e:p=(x 0,l 0):=this;rw[e];rfl
 have lowE:loL m x l=(loL m x l).dropLast++[(x (m-1),l (m-1))]:=by
  apply i_
  ·rw[Z5,Yg,ba];simp;lia
  ·intro i hi;rw[ba]at hi;rw[bS,Yg,ba,XN,ba];by_cases c:i<m-1
   ·rw[if_pos c,dr c]
   ·rw[if_neg c,d_ hi]
    have:i=m-1:=by lia
    rw[this,Nat.sub_self];rfl
 rw[top,full];have stepB:∀Z:List Pt,area (loL m x l++((if b=1 then [] else [(x (m-1),h (m-1))])++Z))=area (loL m x l++((x (m-1),up m a b l h (m-1))::Z)):=by
  intro Z;by_cases c:b=1
  ·rw[if_pos c,Yc];have e:up m a b l h (m-1)=l (m-1):=by unfold up;rw[if_pos (by lia)]
   rw[e,lowE,Y2,Y2];exact (qN _ _ _).symm
  ·rw[if_neg c];have e:up m a b l h (m-1)=h (m-1):=by unfold up;rw[if_neg (by lia)]
   rw[e];rfl
 have stepA:∀Z:List Pt,area (loL m x l++(Z++(if a=1 then [] else [(x 0,h 0)])))=area (loL m x l++(Z++[(x 0,up m a b l h 0)])):=by
  intro Z;by_cases c:a=1
  ·rw[if_pos c,ZT];have e:up m a b l h 0=l 0:=by unfold up;rw[if_pos (by lia)]
   rw[e,<-Y2,f_ (loL m x l++Z),low];exact (qN [] _ _).symm
  ·rw[if_neg c];have e:up m a b l h 0=h 0:=by unfold up;rw[if_neg (by lia)]
   rw[e]
 have rA:(if a=1 then ([]:List Pt) else [(x 0,h 0)]).reverse=if a=1 then [] else [(x 0,h 0)]:=by split<;>rfl
 have rB:(if b=1 then ([]:List Pt) else [(x (m-1),h (m-1))]).reverse=if b=1 then [] else [(x (m-1),h (m-1))]:=by split<;>rfl
 rw[WM,WM,rA,rB,X3,WM,List.reverse_singleton];rw[stepA,Y2,stepB,Y2,Wd,Yc]
theorem lM{m:Nat}{x l h:Nat->Int}{ah:Int}(m2:2<=m)(m6:m<=6)(xs:∀i j,i<j->j<m->x i<x j)(lh:∀i,i<m->l i<h i):
  Good (bC (loL m x l) (loL m x h) ah):=by
 obtain⟨a,b,ha,hb,n3,e⟩:=ku (x:=x) (l:=l) (h:=h) (ah:=ah) m2;rw[e];have C:dD m a b x l h:=⟨m2,m6,ha,hb,n3,xs,lh⟩;have hl:(loL m x l++(((loL m x h).drop a).take (m-a-b)).reverse).length=2*m-a-b:=by
  rw[Z5,ba,Ze,iE (by lia)];lia
 refine⟨⟨by rw[hl];exact n3,by rw[hl];lia,?_⟩,?_⟩
 ·rw[hl];exact pI C rfl (fun i hi=>kG C hi)
 ·rw[tW C]
  have:=yC C
  lia
noncomputable def c6(c:Int):List Pt:=
 let w:=5+c%3
 let h:=6+c/3%3
 [(0,0),(w,0),(w,h),(0,h),(0,3),(w-3,3)]++[(w-3,4),(1,4),(1,h-1),(w-1,h-1),(w-1,1),(0,1)]
noncomputable def gi(w h:Int):List Pt:=[(0,0),(w,0),(w,h),(0,h),(0,3),(w-3,3)]++[(w-3,4),(1,4),(1,h-1),(w-1,h-1),(w-1,1),(0,1)]
theorem wg:((Z4 3).all fun i=>(Z4 3).all fun j=>ng (gi (5+(i:Int)) (6+(j:Int)))&&decide (area (gi (5+(i:Int)) (6+(j:Int)))≠0))=true:=by decide +kernel
theorem lF(c:Int):Good (c6 c):=by
 have h:=wg;simp only[Yt,Zy,ZA,decide_eq_true_eq]at h;have q:=h (c%3).toNat (by lia) (c/3%3).toNat (by lia)
 have e1:(((c%3).toNat:Nat):Int)=c%3:=by lia
 have e2:(((c/3%3).toNat:Nat):Int)=c/3%3:=by lia
 rw[e1,e2]at q;exact⟨mM q.1,q.2⟩
noncomputable def je(x y:Int):List Int:=((Z4 18).map fun k=>((2+k:Nat):Int)).filter fun k=>x%k==0&&y%k==0
noncomputable def flat(cs:List Pt)(c:Int):List Pt:=
 let at_:=(c%cs.length).toNat
 let one:=at' cs (if at_=0 then cs.length-1 else at_-1)
 let x:=(at' cs at_).1-one.1
 let y:=(at' cs at_).2-one.2
 match (je x y).getLast? with
 |none=>cs
 |some g=>if cs.length>11 then cs else
  cs.take at_++[(one.1+x/g*(1+c/12%(g-1)),one.2+y/g*(1+c/12%(g-1)))]++cs.drop at_
theorem iM{x y g:Int}(h:g∈je x y):2<=g/\x%g=0/\y%g=0:=by
 unfold je at h;rw[ZI,Y9]at h;obtain⟨⟨k,hk,rfl⟩,h2⟩:=h;simp only[ZA,beq_iff_eq]at h2;exact⟨by lia,h2.1,h2.2⟩
theorem gP{p q:Pt}{g k:Int}(g2:2<=g)(hx:(q.1-p.1)%g=0)(hy:(q.2-p.2)%g=0)(k1:1<=k)(k2:k<g):
  bu p q (p.1+(q.1-p.1)/g*k,p.2+(q.2-p.2)/g*k):=by
 have ex:g*((q.1-p.1)/g)=q.1-p.1:=Int.mul_ediv_cancel' (Int.dvd_of_emod_eq_zero hx);have ey:g*((q.2-p.2)/g)=q.2-p.2:=Int.mul_ediv_cancel' (Int.dvd_of_emod_eq_zero hy);refine⟨g-k,k,by lia,by lia,?_,?_⟩
 ·generalize (q.1-p.1)/g=z at ex ⊢;simp only
  have:q.1=p.1+g*z:=by lia
  rw[this];grind
 ·generalize (q.2-p.2)/g=z at ey ⊢;simp only
  have:q.2=p.2+g*z:=by lia
  rw[this];grind
theorem Good.flat{cs:List Pt}(G:Good cs)(c:Int):Good (flat cs c):=by
 unfold FF.flat;have lo:=G.fe.lo;have hat:(c%cs.length).toNat<cs.length:=by
  have h1:=Int.emod_nonneg c (show (cs.length:Int)≠0 by lia)
  have h2:=Int.emod_lt_of_pos c (show (0:Int)<cs.length by lia)
  lia
 generalize (c%cs.length).toNat=t at hat;simp only
 split
 ·exact G
 ·rename_i g hg
  split
  ·exact G
  ·rename_i FM;have hm:=iM (Xm hg);have k0:=Int.emod_nonneg (c/12) (show g-1≠0 by lia)
   have k1:=Int.emod_lt_of_pos (c/12) (show 0<g-1 by lia)
   have st:=gP hm.1 hm.2.1 hm.2.2 (k:=1+c/12%(g-1)) (by lia) (by lia)
   have G2:Good (cs.take t++cs.drop t):=by rw[ZC];exact G
   have hl:(cs.take t++cs.drop t).length=cs.length:=by rw[ZC]
   have a0:at' (cs.drop t++cs.take t) 0=at' cs t:=by
    rw[bS,Zu,if_pos (by lia),cQ,Nat.add_zero]
   have a1:at' (cs.drop t++cs.take t) (cs.length-1)=at' cs (if t=0 then cs.length-1 else t-1):=by
    rw[bS,Zu];by_cases z:t=0
    ·subst z;rw[if_pos (by lia),cQ,Nat.zero_add,if_pos rfl]
    ·rw[if_neg (by lia),if_neg z,dr (by lia)]
     congr 1;lia
   refine⟨G2.fe.flat (by lia) (by rw[hl,a0,a1];exact st),?_⟩
   rw[wX (by intro e;have:=Y_ Wv e;rw[hl]at this;rw[YL]at this;lia) (by rw[hl,a0,a1];exact st.on),ZC]
   exact G.ar
noncomputable def b_(c:Int):Nat:=(2+c%5).toNat
noncomputable def bR(ns:List Int)(f:Nat):List Pt:=loL (b_ (cell ns f)) (xAt (cell ns (f+3))) (dk (cell ns (f+1)))
noncomputable def bD(ns:List Int)(f:Nat):List Pt:=loL (b_ (cell ns f)) (xAt (cell ns (f+3))) (bL (cell ns (f+1)) (cell ns (f+2)))
noncomputable def dg(cs:List Pt)(c d:Int):List Pt:=if c/48%5=1 then c6 d else cs
noncomputable def dN(cs:List Pt)(c d:Int):List Pt:=if c/240%2=1 then flat cs d else cs
noncomputable def fK(cs:List Pt)(c:Int):List Pt:=cs.drop (c%cs.length).toNat++cs.take (c%cs.length).toNat
noncomputable def fv(cs:List Pt)(c:Int):List Pt:=if c/12%2=1 then cs.reverse else cs
noncomputable def j8(cs:List Pt)(c:Int):List Pt:=if c/24%2=1 then cs.map swp else cs
noncomputable def du(ns:List Int)(f:Nat):List Pt:=
 let c:=cell ns f/20
 j8 (fv (fK (dN (dg (bC (bR ns f) (bD ns f) (cell ns f/5%4)) c (cell ns (f+1))) c (cell ns (f+2))) c) c) c
theorem rN(ns:List Int)(f:Nat):Good (du ns f):=by
 have hm:2<=b_ (cell ns f)/\b_ (cell ns f)<=6:=by
  unfold b_;lia
 have g0:Good (bC (bR ns f) (bD ns f) (cell ns f/5%4)):=by
  refine lM hm.1 hm.2 (fun i j h _=>nM _ h) (fun i _=>?_)
  have:=dE (cell ns (f+2)) i (show (0:Int)<5 by decide)
  unfold bL;lia
 unfold du;simp only;have g1:∀cs c d,Good cs->Good (dg cs c d):=by
  intro cs c d G;unfold dg;split;exact lF _;exact G
 have g2:∀cs c d,Good cs->Good (dN cs c d):=by
  intro cs c d G;unfold dN;split;exact G.flat _;exact G
 have g4:∀cs c,Good cs->Good (fv cs c):=by
  intro cs c G;unfold fv;split;exact G.rev;exact G
 have g5:∀cs c,Good cs->Good (j8 cs c):=by
  intro cs c G;unfold j8;split;exact G.swap;exact G
 exact g5 _ _ (g4 _ _ ((g2 _ _ _ (g1 _ _ _ g0)).turnBy _))
end FF
end
section
namespace FD
open PySem L2 FF
noncomputable def top(i:Nat):Stmt:=PySem.Challenge.pw_fencefield_k16_what_is_refused.main.body.getD i (.Pass ⟨0,0,0,0⟩)
noncomputable abbrev vn:Stmt:=top 6
noncomputable abbrev mj:Stmt:=top 7
noncomputable abbrev vT:Stmt:=top 8
noncomputable abbrev sY:Stmt:=top 9
noncomputable abbrev vX:Stmt:=top 10
noncomputable abbrev vY:Stmt:=top 11
noncomputable def Co(p:Pt):Prop:=(-(10^40)<=p.1/\p.1<=10^40)/\-(10^40)<=p.2/\p.2<=10^40
noncomputable def PtA(H:Hp)(a:Addr)(p:Pt):Prop:=H a=some (.tup [.int p.1,.int p.2])
theorem at0{x y:V}:atI [x,y] 0=some x:=rfl
theorem at1{x y:V}:atI [x,y] 1=some y:=rfl
theorem g7{x y:Int}(h1:-(10^40)<=x/\x<=10^40)(h2:-(10^40)<=y/\y<=10^40):Big (x-y):=bv (by lia) (by lia)
theorem xF{x y a b:Int}(h1:-a<=x/\x<=a)(h2:-b<=y/\y<=b)(ha:0<=a)(hb:0<=b):-(a*b)<=x*y/\x*y<=a*b:=by
 have k1:=Int.mul_nonneg (show 0<=a-x by lia) (show 0<=b-y by lia)
 have k2:=Int.mul_nonneg (show 0<=a+x by lia) (show 0<=b+y by lia)
 have k3:=Int.mul_nonneg (show 0<=a-x by lia) (show 0<=b+y by lia)
 have k4:=Int.mul_nonneg (show 0<=a+x by lia) (show 0<=b-y by lia)
 have e1:(a-x)*(b-y)=a*b-a*y-x*b+x*y:=by grind
 have e2:(a+x)*(b+y)=a*b+a*y+x*b+x*y:=by grind
 have e3:(a-x)*(b+y)=a*b+a*y-x*b-x*y:=by grind
 have e4:(a+x)*(b-y)=a*b-a*y+x*b-x*y:=by grind
 lia
theorem uR{a b c:Pt}(ha:Co a)(hb:Co b)(hc:Co c):-(10^90)<=turn a b c/\turn a b c<=10^90:=by
 obtain⟨a1,a2⟩:=ha;obtain⟨b1,b2⟩:=hb;obtain⟨c1,c2⟩:=hc;have k1:=xF (x:=b.1-a.1) (y:=c.2-a.2) (a:=2*10^40) (b:=2*10^40) (by lia) (by lia) (by decide) (by decide)
 have k2:=xF (x:=b.2-a.2) (y:=c.1-a.1) (a:=2*10^40) (b:=2*10^40) (by lia) (by lia) (by decide) (by decide)
 unfold turn
 have:(2*10^40:Int)*(2*10^40)*2<=10^90:=by decide
 lia
noncomputable def gF:Sp:=fun vs H Q _=>∃a b c pa pb pc,vs=[.ref a,.ref b,.ref c]/\PtA H a pa/\PtA H b pb/\PtA H c pc/\Co pa/\Co pb/\Co pc/\Q (.int (turn pa pb pc)) H
noncomputable def ke:Sp:=fun vs H Q _=>∃a n b,vs=[.int a,.int n,.int b]/\Q (.bl (eG a n b)) H
noncomputable def qR:Sp:=fun vs H Q _=>∃a b c pa pb pc,vs=[.ref a,.ref b,.ref c]/\PtA H a pa/\PtA H b pb/\PtA H c pc/\Co pa/\Co pb/\Co pc/\Q (.bl (dw pa pb pc)) H
noncomputable def uy:Sp:=fun vs H Q _=>∃a b c d pa pb pc pd,vs=[.ref a,.ref b,.ref c,.ref d]/\PtA H a pa/\PtA H b pb/\PtA H c pc/\PtA H d pd/\Co pa/\Co pb/\Co pc/\Co pd/\Q (.bl (iK pa pb pc pd)) H
noncomputable def rH:Sp:=fun vs H Q _=>∃a b c d pa pb pc pd,vs=[.ref a,.ref b,.ref c,.ref d]/\PtA H a pa/\PtA H b pb/\PtA H c pc/\PtA H d pd/\Co pa/\Co pb/\Co pc/\Co pd/\Q (.bl (cg pa pb pc pd)) H
noncomputable def x9:Sp:=fun vs H Q _=>∃a b c pa pb pc,vs=[.ref a,.ref b,.ref c]/\PtA H a pa/\PtA H b pb/\PtA H c pc/\Co pa/\Co pb/\Co pc/\Q (.bl (fu pa pb pc)) H
structure Cal(P:Zv)(w:Zl)(K:Z3)(mg:Str->Option Value)(base:ZF)(n:Nat)(x:Str)(ps:List Str)(sp:Sp):Prop where
 ex:∃f fd,aI P w K mg base CX0 n f fd ps sp/\Binds K fd ps []/\Yl K (.ref f)=true/\mg x=some (.ref f)
theorem CY{X:Cx}{j k:Nat}{x:Str}{ps:List Str}{sp:Sp}{p pos:Pos}{e:ZN}{es:List ZN}{t:TA}(C:Cal X.prog X.w X.K X.mg X.base j x ps sp)(hr:dJ k X.A)(hj:j<=k)(hg:Gl X x)(ha:PA X (e::es) t)
  (EL:(x==("__debug__" : Str))=false:=by decide)(he:Zp (e::es) X.env=(false,eval e X.env)::Zp es X.env:=by rfl)(EC:(backTo pos (Zp es X.env)).any (·.1)=false:=by rfl):
  PE X (.Call (.Name x p) (e::es) [] pos) (jK sp [] E0 t):=by
 obtain⟨f,fd,F,b,k',m⟩:=C.ex;exact uW F (hr.mono hj) hg m k' b .nil D7 ha EL he EC
theorem ay{X:Cx}{j k:Nat}{x:Str}{ps:List Str}{sp:Sp}{p pos:Pos}{e:ZN}{es:List ZN}{t:TA}(C:Cal X.prog X.w X.K X.mg X.base j x ps sp)(hr:dJ k X.A)(ha:PA X (e::es) t)(hj:j<=k:=by decide)(hg:Gl X x:=by rfl)(EL:(x==("__debug__" : Str))=false:=by decide)(he:Zp (e::es) X.env=(false,eval e X.env)::Zp es X.env:=by rfl)(EC:(backTo pos (Zp es X.env)).any (·.1)=false:=by rfl):PE X (.Call (.Name x p) (e::es) [] pos) (jK sp [] E0 t):=CY C hr hj hg ha EL he EC
theorem Cal.of{P:Zv}{w:Zl}{K:Z3}{mg:Str->Option Value}{base:ZF}{n:Nat}{x:Str}{ps:List Str}{sp:Sp}{f:Addr}{fd:Zf}(F:aI P w K mg base CX0 n f fd ps sp)(b:Binds K fd ps [])(k:Yl K (.ref f)=true)(m:mg x=some (.ref f)):
  Cal P w K mg base n x ps sp:=⟨f,fd,F,b,k,m⟩
section
variable{P:Zv}{w:Zl}{K:Z3}{mg:Str->Option Value}{base:ZF}{f:Addr}{fd:Zf}
theorem rm:aD ["start","end","point","across","along"] ["start","end","point"] (aq vn):=.mk'
theorem Ch{n:Nat}(F:Fun K "turn" "turn" vn f fd):aI P w K mg base CX0 (n+1) f fd ["start","end","point"] gF:=by
 refine F.ok rm (by rintro _ _ _ _⟨a,b,c,pa,pb,pc,rfl,_⟩;rfl) fun E3 A outer s H vs Q E hr h=>?_
 obtain⟨a,b,c,pa,pb,pc,rfl,ha,hb,hc,ca,cb,cc,q⟩:=h;refine⟨_,aB (aE (i:=3) rm.nd (ai fH (ai bn (ak ax (pv 1) ad) (ak ax (pv 0) ad)) (ai bn (ak ax (pv 2) ad) (ak ax (pv 0) ad))))
  (aB (aE (i:=4) rm.nd (ai fH (ai bn (ak ax (pv 1) ad) (ak ax (pv 0) ad)) (ai bn (ak ax (pv 2) ad) (ak ax (pv 0) ad))))
  (ap (aC (ai bn (pv 3) (pv 4))))),?_⟩
 refine⟨_,rfl,b,_,_,_,rfl,rfl,SqT.of hb,at0,_,rfl,a,_,_,_,rfl,rfl,SqT.of ha,at0,_,_,rfl,rfl,_,rfl,c,_,_,_,rfl,rfl,SqT.of hc,at1,_,rfl,a,_,_,_,rfl,rfl,SqT.of ha,at1,_,_,rfl,rfl,_,_,rfl,rfl,⟨g7 cb.1 ca.1,g7 cc.2 ca.2⟩,?_⟩;refine⟨_,rfl,b,_,_,_,rfl,rfl,SqT.of hb,at1,_,rfl,a,_,_,_,rfl,rfl,SqT.of ha,at1,_,_,rfl,rfl,_,rfl,c,_,_,_,rfl,rfl,SqT.of hc,at0,_,rfl,a,_,_,_,rfl,rfl,SqT.of ha,at0,_,_,rfl,rfl,_,_,rfl,rfl,⟨g7 cb.2 ca.2,g7 cc.1 ca.1⟩,?_⟩;exact⟨_,rfl,_,rfl,_,_,rfl,rfl,q⟩
theorem xg:aD ["one","number","other"] ["one","number","other"] (aq mj):=.mk'
theorem v6{n:Nat}(F:Fun K "between" "between" mj f fd)(m1:mg "min" = none)(m2:mg "max" = none):aI P w K mg base CX0 (n+1) f fd ["one","number","other"] ke:=by
 refine F.ok xg (by rintro _ _ _ _⟨a,b,c,rfl,_⟩;rfl) fun E3 A outer s H vs Q E hr h=>?_
 obtain⟨a,m,b,rfl,q⟩:=h;refine⟨_,ap (aC (zm AA AA (aN (yx rfl) rfl m1 Sz (pa2 (pv 0) (pv 2))) (pv 1) (aN (xz rfl) rfl m2 Sy (pa2 (pv 0) (pv 2))))),?_⟩;refine⟨_,rfl,_,rfl,_,_,rfl,_,rfl,_,_,rfl,rfl,_,rfl,?_⟩;refine aU (fun c=>?_) (fun c=>?_)
 ·refine⟨_,rfl,_,rfl,_,_,rfl,_,_,rfl,rfl,?_⟩;have c':=Zx c;have e:decide (m<=if b>a then b else a)=eG a m b:=by
   unfold eG;rw[ZS,Xp];simp only[decide_eq_true_eq]
   (repeat' split at c')<;>(repeat' split)<;>lia
  show Q (.bl (decide (m<=if b>a then b else a))) H
  rw[e];exact q
 ·have c':¬_:=fun z=>c (Zt z);have e:false=eG a m b:=by
   unfold eG;symm;rw[WG];simp only[decide_eq_false_iff_not]
   (repeat' split at c')<;>lia
  show Q (.bl false) H;rw[e];exact q
theorem DI:aD ["start","end","point"] ["start","end","point"] (aq vT):=.mk'
theorem Bb(F:Fun K "lies_on" "lies_on" vT f fd)(cB:Cal P w K mg base 1 "between" ["one","number","other"] ke)(cT:Cal P w K mg base 1 "turn" ["start","end","point"] gF):aI P w K mg base CX0 2 f fd ["start","end","point"] qR:=by
 refine F.ok DI (by rintro _ _ _ _⟨a,b,c,pa,pb,pc,rfl,_⟩;rfl) fun E3 A outer s H vs Q E hr h=>?_
 obtain⟨a,b,c,pa,pb,pc,rfl,ha,hb,hc,ca,cb,cc,q⟩:=h;refine⟨_,aB (aZ (PW.pt (jX (jw (c7 (ay cB hr (pa3 (ak ax (pv 0) ad) (ak ax (pv 2) ad) (ak ax (pv 1) ad)))))
   (iO (jw (c7 (ay cB hr (pa3 (ak ax (pv 0) ad) (ak ax (pv 2) ad) (ak ax (pv 1) ad))))))))
   (ap (aC eJ)) aL)
  (ap (aC (fY be (ay cT hr (pa3 (pv 0) (pv 1) (pv 2))) ad))),?_⟩
 refine⟨_,rfl,a,_,_,_,rfl,rfl,SqT.of ha,at0,_,rfl,c,_,_,_,rfl,rfl,SqT.of hc,at0,_,rfl,b,_,_,_,rfl,rfl,SqT.of hb,at0,?_⟩;refine⟨_,_,_,rfl,_,rfl,?_⟩;refine aU (fun c1=>?_) (fun c1=>?_)
 ·refine c9 ?_;have e:dw pa pb pc=false:=by
   unfold dw;rw[Yr]at c1;rw[show eG pa.1 pc.1 pb.1=false from c1];rfl
  rw[e]at q;exact q
 ·refine⟨_,rfl,a,_,_,_,rfl,rfl,SqT.of ha,at1,_,rfl,c,_,_,_,rfl,rfl,SqT.of hc,at1,_,rfl,b,_,_,_,rfl,rfl,SqT.of hb,at1,_,_,_,rfl,_,rfl,?_⟩;refine aU (fun c2=>?_) (fun c2=>?_)
  ·have e:dw pa pb pc=false:=by
    unfold dw;rw[Yr]at c2;rw[show eG pa.2 pc.2 pb.2=false from c2,Wo];rfl
   rw[e]at q;exact q
  ·have c1':eG pa.1 pc.1 pb.1=true:=by simpa using c1
   have c2':eG pa.2 pc.2 pb.2=true:=by simpa using c2
   refine⟨_,rfl,_,rfl,_,rfl,a,b,c,pa,pb,pc,rfl,ha,hb,hc,ca,cb,cc,rfl,?_⟩;have e:dw pa pb pc=decide (V.int (turn pa pb pc)=V.int 0):=by
    unfold dw;rw[c1',c2',cX];rfl
   rw[e]at q;exact q
theorem Bs:aD ["start","end","one","other"] ["start","end","one","other"] (aq sY):=.mk'
theorem Ah(F:Fun K "parts" "parts" sY f fd)(cT:Cal P w K mg base 1 "turn" ["start","end","point"] gF):aI P w K mg base CX0 2 f fd ["start","end","one","other"] uy:=by
 refine F.ok Bs (by rintro _ _ _ _⟨a,b,c,d,pa,pb,pc,pd,rfl,_⟩;rfl) fun E3 A outer s H vs Q E hr h=>?_
 obtain⟨a,b,c,d,pa,pb,pc,pd,rfl,ha,hb,hc,hd,ca,cb,cc,cd,q⟩:=h;refine⟨_,ap (aC (fY nJ (ai fH (ay cT hr (pa3 (pv 0) (pv 1) (pv 2))) (ay cT hr (pa3 (pv 0) (pv 1) (pv 3)))) ad)),?_⟩
 have k1:=uR ca cb cc;have k2:=uR ca cb cd;exact⟨_,rfl,_,rfl,_,rfl,a,b,c,pa,pb,pc,rfl,ha,hb,hc,ca,cb,cc,_,rfl,_,rfl,_,rfl,a,b,d,pa,pb,pd,rfl,ha,hb,hd,ca,cb,cd,_,_,rfl,rfl,⟨bv (by lia) (by lia),bv (by lia) (by lia)⟩,_,_,rfl,rfl,q⟩
theorem CV:aD ["start","end","other_start","other_end"] ["start","end","other_start","other_end"] (aq vX):=.mk'
theorem B3(F:Fun K "sides_meet" "sides_meet" vX f fd)(cL:Cal P w K mg base 2 "lies_on" ["start","end","point"] qR)(cP:Cal P w K mg base 2 "parts" ["start","end","one","other"] uy):aI P w K mg base CX0 3 f fd ["start","end","other_start","other_end"] rH:=by
 refine F.ok CV (by rintro _ _ _ _⟨a,b,c,d,pa,pb,pc,pd,rfl,_⟩;rfl) fun E3 A outer s H vs Q E hr h=>?_
 obtain⟨a,b,c,d,pa,pb,pc,pd,rfl,ha,hb,hc,hd,ca,cb,cc,cd,q⟩:=h;refine⟨_,aB (aZ (PW.pt (jX (c7 (ay cL hr (pa3 (pv 0) (pv 1) (pv 2)))) (iO (c7 (ay cL hr (pa3 (pv 0) (pv 1) (pv 3))))))) (ap (aC eJ)) aL)
  (aB (aZ (PW.pt (jX (c7 (ay cL hr (pa3 (pv 2) (pv 3) (pv 0)))) (iO (c7 (ay cL hr (pa3 (pv 2) (pv 3) (pv 1))))))) (ap (aC eJ)) aL)
  (ap (aC (qP (ay cP hr (pa4 (pv 0) (pv 1) (pv 2) (pv 3))) (rG (ay cP hr (pa4 (pv 2) (pv 3) (pv 0) (pv 1)))))))),?_⟩
 refine⟨_,rfl,_,rfl,_,rfl,a,b,c,pa,pb,pc,rfl,ha,hb,hc,ca,cb,cc,_,rfl,?_⟩;refine aU (fun c1=>?_) (fun c1=>?_)
 ·refine c9 ?_;have e:cg pa pb pc pd=true:=by unfold cg;rw[c1];rfl
  rw[e]at q;exact q
 refine⟨_,rfl,_,rfl,_,rfl,a,b,d,pa,pb,pd,rfl,ha,hb,hd,ca,cb,cd,_,rfl,?_⟩;refine aU (fun c2=>?_) (fun c2=>?_)
 ·have e:cg pa pb pc pd=true:=by unfold cg;rw[c2,Ub];rfl
  rw[e]at q;exact q
 refine⟨_,rfl,_,rfl,_,rfl,c,d,a,pc,pd,pa,rfl,hc,hd,ha,cc,cd,ca,_,rfl,?_⟩;refine aU (fun c3=>?_) (fun c3=>?_)
 ·refine c9 ?_;have e:cg pa pb pc pd=true:=by unfold cg;rw[c3,Ub];rfl
  rw[e]at q;exact q
 refine⟨_,rfl,_,rfl,_,rfl,c,d,b,pc,pd,pb,rfl,hc,hd,hb,cc,cd,cb,_,rfl,?_⟩;refine aU (fun c4=>?_) (fun c4=>?_)
 ·have e:cg pa pb pc pd=true:=by unfold cg;rw[c4,Ub];rfl
  rw[e]at q;exact q
 have e:cg pa pb pc pd=(iK pa pb pc pd&&iK pc pd pa pb):=by
  unfold cg;rw[Yq.mpr c1,Yq.mpr c2,Yq.mpr c3,Yq.mpr c4];rfl
 rw[e]at q;refine⟨_,rfl,_,rfl,_,rfl,_,rfl,a,b,c,d,pa,pb,pc,pd,rfl,ha,hb,hc,hd,ca,cb,cc,cd,_,rfl,?_⟩;refine aU (fun c5=>?_) (fun c5=>?_)
 ·rw[c5,Uw]at q;exact⟨_,rfl,_,rfl,_,rfl,_,rfl,c,d,a,b,pc,pd,pa,pb,rfl,hc,hd,ha,hb,cc,cd,ca,cb,q⟩
 ·rw[Yq.mpr c5,Xc]at q;exact q
theorem sq:aD ["before","corner","after","across","upward"] ["before","corner","after"] (aq vY):=.mk'
theorem BN(F:Fun K "goes_back" "goes_back" vY f fd)(cT:Cal P w K mg base 1 "turn" ["start","end","point"] gF):aI P w K mg base CX0 2 f fd ["before","corner","after"] x9:=by
 refine F.ok sq (by rintro _ _ _ _⟨a,b,c,pa,pb,pc,rfl,_⟩;rfl) fun E3 A outer s H vs Q E hr h=>?_
 obtain⟨a,b,c,pa,pb,pc,rfl,ha,hb,hc,ca,cb,cc,q⟩:=h;refine⟨_,aB (aZ (aQ iS (ay cT hr (pa3 (pv 0) (pv 1) (pv 2))) ad) (ap (aC eJ)) aL)
  (aB (aE (i:=3) sq.nd (ai fH (ai bn (ak ax (pv 0) ad) (ak ax (pv 1) ad)) (ai bn (ak ax (pv 2) ad) (ak ax (pv 1) ad))))
  (aB (aE (i:=4) sq.nd (ai fH (ai bn (ak ax (pv 0) ad) (ak ax (pv 1) ad)) (ai bn (ak ax (pv 2) ad) (ak ax (pv 1) ad))))
  (ap (aC (fY fJ (ai bE (pv 3) (pv 4)) ad))))),?_⟩
 refine⟨_,rfl,_,rfl,_,rfl,a,b,c,pa,pb,pc,rfl,ha,hb,hc,ca,cb,cc,rfl,_,rfl,?_⟩;refine aU (fun c1=>?_) (fun c1=>?_)
 ·have e:fu pa pb pc=false:=by
   unfold fu;rw[cX,Yr]at c1;rw[c1];rfl
  rw[e]at q;exact q
 have c1':(turn pa pb pc==0)=true:=by
  rw[cX]at c1;simpa using c1
 refine⟨_,rfl,a,_,_,_,rfl,rfl,SqT.of ha,at0,_,rfl,b,_,_,_,rfl,rfl,SqT.of hb,at0,_,_,rfl,rfl,_,rfl,c,_,_,_,rfl,rfl,SqT.of hc,at0,_,rfl,b,_,_,_,rfl,rfl,SqT.of hb,at0,_,_,rfl,rfl,_,_,rfl,rfl,⟨g7 ca.1 cb.1,g7 cc.1 cb.1⟩,?_⟩;refine⟨_,rfl,a,_,_,_,rfl,rfl,SqT.of ha,at1,_,rfl,b,_,_,_,rfl,rfl,SqT.of hb,at1,_,_,rfl,rfl,_,rfl,c,_,_,_,rfl,rfl,SqT.of hc,at1,_,rfl,b,_,_,_,rfl,rfl,SqT.of hb,at1,_,_,rfl,rfl,_,_,rfl,rfl,⟨g7 ca.2 cb.2,g7 cc.2 cb.2⟩,?_⟩;refine⟨_,rfl,_,rfl,_,_,rfl,rfl,_,_,rfl,rfl,?_⟩;have e:fu pa pb pc=decide (0<iN pa pb pc):=by unfold fu;rw[c1'];rfl
 rw[e]at q;exact q
end
end FD
end
section
namespace FD
open PySem L2 FF
noncomputable abbrev rD:Stmt:=top 17
noncomputable abbrev qA:Stmt:=top 18
noncomputable abbrev qk:Stmt:=top 19
noncomputable abbrev la:Stmt:=top 22
noncomputable abbrev qK:Stmt:=top 23
noncomputable abbrev kH:Stmt:=top 24
noncomputable abbrev kD:Stmt:=top 25
noncomputable abbrev lv:Stmt:=top 26
noncomputable def aw(n:Nat)(rf:Nat->Addr):List V:=(Z4 n).map fun i=>V.ref (rf i)
theorem av{n:Nat}{rf:Nat->Addr}:(aw n rf).length=n:=by unfold aw;rw[Z6,Zd]
theorem aY{n:Nat}{rf:Nat->Addr}{i:Nat}(h:i<n):(aw n rf)[i]?=some (.ref (rf i)):=by unfold aw;rw[Zn,YR h];rfl
theorem bN{n:Nat}{rf:Nat->Addr}{i:Nat}{x:V}(h:(aw n rf)[i]?=some x):i<n/\x=.ref (rf i):=by
 have hi:i<n:=by have:=(Zh.mp h).1;rwa [av]at this
 rw[aY hi]at h;exact⟨hi,(ZH h).symm⟩
noncomputable def PLs(H:Hp)(l:Addr)(rf:Nat->Addr)(cs:List Pt):Prop:=H l=some (.lst (aw cs.length rf))/\∀i,i<cs.length->PtA H (rf i) (at' cs i)
theorem PLs.mono{H H':Hp}{l:Addr}{rf:Nat->Addr}{cs:List Pt}(h:PLs H l rf cs)(s:au H H'):PLs H' l rf cs:=⟨s _ _ h.1,fun i hi=>s _ _ (h.2 i hi)⟩
noncomputable def aJ(cs:List Pt):Prop:=∀i,i<cs.length->Co (at' cs i)
theorem ao{H:Hp}{p:Addr}(h:H p=none)(o:HO):au H (upd H p o):=fun b u q=>by rw[aG (a9 q h)];exact q
theorem aS{n:Nat}(h:n<=1000):n<=sizeLine:=Nat.le_of_lt (kM h)
theorem oB{n k:Nat}{rf:Nat->Addr}(hk:k<=n)(h0:0<k):atI (aw n rf) (-(k:Int))=some (.ref (rf (n-k))):=by
 unfold atI ixN;rw[av,if_neg (by lia),if_pos (by lia)]
 have e:(-(k:Int)+(n:Int)).toNat=n-k:=by lia
 rw[e];exact aY (by lia)
theorem ef{n k:Nat}{rf:Nat->Addr}(hk:k<n):atI (aw n rf) (k:Int)=some (.ref (rf k)):=c8 (aY hk)
noncomputable def pv_(n i:Nat):Nat:=if i=0 then n-1 else i-1
theorem jG{n k:Nat}{rf:Nat->Addr}(hk:k<n):atI (aw n rf) ((k:Int)-1)=some (.ref (rf (pv_ n k))):=by
 unfold pv_;by_cases c:k=0
 ·rw[if_pos c]
  have:(k:Int)-1=-((1:Nat):Int):=by lia
  rw[this];exact oB (by lia) (by lia)
 ·rw[if_neg c]
  have:(k:Int)-1=((k-1:Nat):Int):=by lia
  rw[this];exact ef (by lia)
theorem pH{n k:Nat}{rf:Nat->Addr}(hk:k<n)(h2:2<=n):atI (aw n rf) ((k:Int)-2)=some (.ref (rf (pv_ n (pv_ n k)))):=by
 unfold pv_;by_cases c:k=0
 ·rw[if_pos c,if_neg (by lia)]
  have:(k:Int)-2=-((2:Nat):Int):=by lia
  rw[this,show n-1-1=n-2 by lia]
  exact oB (by lia) (by lia)
 ·rw[if_neg c];by_cases c2:k=1
  ·rw[if_pos (by lia)]
   have:(k:Int)-2=-((1:Nat):Int):=by lia
   rw[this];exact oB (by lia) (by lia)
  ·rw[if_neg (by lia)]
   have:(k:Int)-2=((k-2:Nat):Int):=by lia
   rw[this,show k-1-1=k-2 by lia]
   exact ef (by lia)
theorem qt{n i:Nat}(h:i<n):pv_ n i<n:=by unfold pv_;split<;>lia
theorem AY{n i:Nat}(h:i<n):nx n (pv_ n i)=i:=by unfold nx pv_;(repeat' split)<;>lia
theorem AG{n i:Nat}(h:i<n):pv_ n (nx n i)=i:=by unfold nx pv_;(repeat' split)<;>lia
theorem u4{n:Nat}{rf:Nat->Addr}(h:1<=n):bj (aw n rf) (some 1) none++bj (aw n rf) none (some 1)=aw n (fun i=>rf (nx n i)):=by
 have e1:bj (aw n rf) (some 1) none=(aw n rf).drop 1:=by
  unfold bj;rw[show HT.sIx (aw n rf).length 0 (some 1)=min 1 (aw n rf).length from HT.sIx_nat _ _ 1,HT.sIx_none,av,Nat.min_eq_left h]
  exact XE (by rw[Zu,av];lia)
 have e2:bj (aw n rf) none (some 1)=(aw n rf).take 1:=by
  unfold bj;rw[show HT.sIx (aw n rf).length (aw n rf).length (some 1)=min 1 (aw n rf).length from HT.sIx_nat _ _ 1,HT.sIx_none,av,Nat.min_eq_left h,V2]
 rw[e1,e2];apply X4;intro i;by_cases c:i<n
 ·rw[aY c];by_cases c2:i+1=n
  ·rw[Y1 (by rw[Zu,av];lia),Zu,av,Yx (by lia),show i-(n-1)=0 by lia,aY (by lia)]
   unfold nx;rw[if_pos c2]
  ·rw[ZL (by rw[Zu,av];lia),YM,aY (by lia)]
   unfold nx;rw[if_neg c2,Nat.add_comm]
 ·rw[ZO (by rw[Z5,Zu,Zi,av];lia),ZO (by rw[av];lia)]
noncomputable def lw(H:Hp)(r:Addr)(ts rf:Nat->Addr)(n:Nat):Prop:=H r=some (.lst (aw n ts))/\∀i,i<n->H (ts i)=some (.tup [.ref (rf i),.ref (rf (nx n i))])
theorem lw.mono{H H':Hp}{r:Addr}{ts rf:Nat->Addr}{n:Nat}(h:lw H r ts rf n)(s:au H H'):lw H' r ts rf n:=⟨s _ _ h.1,fun i hi=>s _ _ (h.2 i hi)⟩
noncomputable def gK:Sp:=fun vs H Q _=>∃l rf cs,vs=[.ref l]/\PLs H l rf cs/\1<=cs.length/\cs.length<=400/\∀r ts H',au H H'->lw H' r ts rf cs.length->Q (.ref r) H'
noncomputable def jN(cs:List Pt):Prop:=∃i,i<cs.length/\fu (at' cs i) (at' cs (nx cs.length i)) (at' cs (nx cs.length (nx cs.length i)))=true
noncomputable def lU(cs:List Pt):Prop:=∃i j,i<cs.length/\j<cs.length/\i≠j/\nx cs.length i≠j/\nx cs.length j≠i/\cg (at' cs i) (at' cs (nx cs.length i)) (at' cs j) (at' cs (nx cs.length j))=true
noncomputable def mY:Sp:=fun vs H Q _=>∃l rf cs,vs=[.ref l]/\PLs H l rf cs/\aJ cs/\3<=cs.length/\cs.length<=400/\∀b,(b=true↔jN cs)->Q (.bl b) H
noncomputable def mU:Sp:=fun vs H Q _=>∃l rf cs,vs=[.ref l]/\PLs H l rf cs/\aJ cs/\3<=cs.length/\cs.length<=400/\∀b H',au H H'->(b=true↔lU cs)->Q (.bl b) H'
noncomputable def ox:Sp:=fun vs H Q _=>∃l rf cs,vs=[.ref l]/\PLs H l rf cs/\aJ cs/\cs.length<=400/\∀b H',au H H'->(b=true↔aF cs)->Q (.bl b) H'
noncomputable def eQ:Sp:=fun vs H Q _=>∃l rf cs,vs=[.ref l]/\PLs H l rf cs/\aJ cs/\aF cs/\∀H',au H H'->Q .non H'
noncomputable def mz:Sp:=fun vs H Q _=>∃l rf cs,vs=[.ref l]/\PLs H l rf cs/\aJ cs/\1<=cs.length/\cs.length<=400/\∀H',au H H'->Q (.int (area cs)) H'
noncomputable def kW:Sp:=fun vs H Q _=>∃l rf cs,vs=[.ref l]/\PLs H l rf cs/\aJ cs/\aF cs/\∀H',au H H'->Q (.int (if area cs<0 then-area cs else area cs)) H'
noncomputable def se:Sp:=fun vs H Q _=>∃l rf cs,vs=[.ref l]/\PLs H l rf cs/\aJ cs/\aF cs/\∀H',au H H'->Q (.bl (decide (0<area cs))) H'
section
variable{P:Zv}{w:Zl}{K:Z3}{mg:Str->Option Value}{base:ZF}{f:Addr}{fd:Zf}
theorem Bx:aD ["corners"] ["corners"] (aq qK):=.mk'
theorem zU{n:Nat}(F:Fun K "sides_of" "sides_of" qK f fd)(m1:mg "list" = none)(m2:mg "zip" = none):aI P w K mg base CX0 (n+1) f fd ["corners"] gK:=by
 refine F.ok Bx (by rintro _ _ _ _⟨l,rf,cs,rfl,_⟩;rfl) fun E3 A outer s H vs Q E hr h=>?_
 obtain⟨l,rf,cs,rfl,hp,n1,n4,q⟩:=h;refine⟨_,ap (aC (vA rfl rfl m1 rfl m2 (pa2 (pv 0) (ai dL (bH bZ (pv 0) (bP ad) cN) (bH bZ (pv 0) cN (bP ad)))))),?_⟩;refine⟨_,rfl,_,rfl,1,rfl,l,_,rfl,SqL.of hp.1,fun p1 hp1=>?_⟩;have s1:=ao hp1 (.lst (bj (aw cs.length rf) (some 1) none));refine⟨_,rfl,1,rfl,l,_,rfl,SqL.of (s1 _ _ hp.1),fun p2 hp2=>?_⟩;have s2:=ao hp2 (.lst (bj (aw cs.length rf) none (some 1)));refine⟨p1,p2,_,_,rfl,rfl,s2 _ _ aj,aj,?_,fun p3 hp3=>?_⟩
 ·rw[<-Z5,u4 n1,av];exact aS (by lia)
 have s3:=ao hp3 (.lst (bj (aw cs.length rf) (some 1) none++bj (aw cs.length rf) none (some 1)));have sA:=s1.trans (s2.trans s3);refine⟨l,p3,aw cs.length rf,aw cs.length (fun i=>rf (nx cs.length i)),rfl,SqL.of (sA _ _ hp.1),?_,by rw[av,av],fun ts r H' sH ht hl=>?_⟩
 ·rw[<-u4 n1];exact SqL.of aj
 refine q r ts H' (sA.trans sH) ⟨?_,fun i hi=>ht i _ _ (aY hi) (aY hi)⟩;rw[hl,av];rfl
theorem mS:aD ["corners","k"] ["corners"] (aq kH):=.mk'
theorem tR(F:Fun K "some_side_goes_back" "some_side_goes_back" kH f fd)(cB:Cal P w K mg base 2 "goes_back" ["before","corner","after"] x9)(m1:mg "range" = none)(m2:mg "len" = none):aI P w K mg base CX0 3 f fd ["corners"] mY:=by
 refine F.ok mS (by rintro _ _ _ _⟨l,rf,cs,rfl,_⟩;rfl) fun E3 A outer s H vs Q E hr h=>?_
 obtain⟨l,rf,cs,rfl,hp,co,n3,n4,q⟩:=h;refine⟨_,aB (gU Yb rfl (eC rfl m1 (pa1 (aN aW rfl m2 ZJ (pa1 (pv 0))))) (aM (i:=1) mS.nd rfl (ZQ rfl))
   (ap (aZ (c7 (ay cB hr (pa3 (ak aH (pv 0) (ai bn (pv 1) ad)) (ak aH (pv 0) (ai bn (pv 1) ad)) (ak aH (pv 0) (pv 1))))) (ap (aC eJ)) aL)))
  (ap (aC eJ)),?_⟩
 refine⟨_,rfl,l,_,rfl,.inl (SqL.of hp.1),_,rfl,?_,?_,?_⟩
 ·lia
 ·rw[av];lia
 rw[av];have e0:((cs.length:Nat):Int).toNat=cs.length:=by lia
 rw[e0];refine iR (fun i σ H'=>(∃kv,σ=[some (.ref l),kv])/\H'=H/\∀k,k<i->fu (at' cs (pv_ cs.length (pv_ cs.length k))) (at' cs (pv_ cs.length k)) (at' cs k)=false) ⟨⟨none,rfl⟩,rfl,fun k hk=>absurd hk (by lia)⟩ ?_ ?_
 ·rintro i σ H' hi ⟨⟨kv,rfl⟩,rfl,Fp⟩;have ei:(0:Int)+(i:Int)=(i:Int):=by lia
  rw[ei];have p1:=qt hi;have p2:=qt p1;refine⟨_,rfl,_,rfl,_,_,rfl,rfl,l,_,_,_,rfl,rfl,SqL.of hp.1,pH hi (by lia),_,rfl,_,rfl,_,_,rfl,rfl,l,_,_,_,rfl,rfl,SqL.of hp.1,jG hi,_,rfl,_,rfl,l,_,_,_,rfl,rfl,SqL.of hp.1,ef hi,
   rf _,rf _,rf i,_,_,_,rfl,hp.2 _ p2,hp.2 _ p1,hp.2 _ hi,co _ p2,co _ p1,co _ hi,_,rfl,?_⟩
  refine aU (fun c=>?_) (fun c=>?_)
  ·refine q true ⟨fun _=>?_,fun _=>rfl⟩;refine⟨pv_ cs.length (pv_ cs.length i),p2,?_⟩;rw[AY p1,AY hi];exact c
  ·refine⟨⟨_,rfl⟩,rfl,fun k hk=>?_⟩;by_cases e:k=i
   ·subst e;exact Yq.mpr c
   ·exact Fp k (by lia)
 ·rintro σ H' ⟨_,rfl,Fp⟩;refine q false ⟨fun z=>ZM z,fun ⟨i,hi,hb⟩=>?_⟩;have n1:=aK hi;have n2:=aK n1
  have:=Fp _ n2
  rw[AG n1,AG hi]at this;rw[this]at hb;exact ZM hb
end
end FD
end
section
namespace L2
open PySem PySem.Spec PyProof.Rows
theorem Az{K:Z3}{a:Addr}{xs:List V}{g:TG}{tb:TS}{D:g9}{σ:St}{H:Hp}(Pv:Nat->St->Hp->Prop)(h0:Pv 0 σ H)(hl:∀i σ H,i<=xs.length->Pv i σ H->SqL K H a xs)
  (hs:∀i x σ H T,xs[i]?=some x->Pv i σ H->H T=none->g (.ref T) σ (upd H T (.tup [.int i,x])) fun σ2 H2=>tb {D with nx:=Pv (i+1),ct:=Pv (i+1),bk:=D.nx} σ2 H2)(hd:∀σ H,Pv xs.length σ H->D.nx σ H):
  ∃W:Nat->Nat->St->Hp->Prop,(∃m,W 0 m σ H)/\∀i m σ H,W i m σ H->
   ((Ite K a).stop i H/\D.nx σ H)\/((Ite K a).go i H/\∃N:St->Hp->Prop,(∀σ' H',N σ' H'->∃m',m'<m/\W (i+1) m' σ' H')/\∀x H',(Ite K a).yld i H x H'->g x σ H' fun σ2 H2=>tb {D with nx:=N,ct:=N,bk:=D.nx} σ2 H2):=by
 refine⟨fun i m σ H=>m=xs.length-i/\i<=xs.length/\Pv i σ H,⟨xs.length,by simp,Nat.zero_le _,h0⟩,?_⟩
 rintro i m σ H ⟨rfl,hi,p⟩;have q:=hl i σ H hi p;by_cases Eu:i<xs.length
 ·refine .inr ⟨⟨xs,xs[i],q,by simp[Eu]⟩,Pv (i+1),fun σ' H' p'=>⟨xs.length-(i+1),by lia,rfl,Eu,p'⟩,fun x H' y=>?_⟩
  obtain⟨T,v,rfl,hT,rfl,y⟩:=y;exact hs i v σ _ T (y xs q) p hT
 ·have e:i=xs.length:=by lia
  subst e;exact .inl ⟨⟨xs,q,Nat.le_refl _⟩,hd σ H p⟩
noncomputable def wO(sc scope:XQ)(N0 N':List Str)(own:Nat)(ag:List Nat):Bool:=
 scope.names.all (fun y=>!(y.2==.cell))&&(scope.kind==.function)&&scope.names.all (fun y=>!(y.2==.local)||scope.names.lookup y.1==some .local)&&
 scope.names.all (fun y=>!(y.2==.free)||sc.names.lookup y.1==some .cell||sc.names.lookup y.1==some .free)&&(N'.length==own+ag.length)&&
 (Z4 ag.length).all fun i=>match ag[i]?,N'[own+i]? with|some j,some x=>N0[j]? == some x&&scope.names.lookup x==some .free|_,_=>true
theorem aO.of{X:Cx}{sc scope:XQ}{N0 N':List Str}{own:Nat}{ag:List Nat}(hsc:X.env.scope=sc)(hN:X.N=N0)(h:wO sc scope N0 N' own ag=true):aO X scope N' own ag:=by
 subst hsc hN;unfold wO at h;simp only[ZA,Yt,Yr,Xp,beq_iff_eq,Zy]at h;obtain⟨⟨⟨⟨⟨h1,h2⟩,h3⟩,h4⟩,h5⟩,h6⟩:=h;refine⟨fun y hy e=>?_,h2,fun y hy e=>?_,fun y hy e=>?_,h5,fun i j x e1 e2=>?_⟩
 ·have:=h1 y hy;rw[e]at this;exact absurd this (by decide)
 ·rcases h3 y hy with q|q
  ·rw[e]at q;exact absurd q (by decide)
  ·exact q
 ·rcases h4 y hy with (q|q)|q
  ·rw[e]at q;exact absurd q (by decide)
  ·exact .inl q
  ·exact .inr q
 ·have hi:i<ag.length:=(Zh.mp e1).1
  have:=h6 i hi
  rw[e1,e2]at this;simp only[ZA,beq_iff_eq]at this;exact this
end L2
namespace FD
open PySem L2 FF
theorem jU{n s:Nat}{ts:Nat->Addr}:bj (aw n ts) (some (s:Int)) none=aw (n-s) (fun j=>ts (s+j)):=by
 unfold bj;rw[HT.sIx_nat,HT.sIx_none,av];apply X4;intro i;by_cases c:i<n-s
 ·rw[aY c,Yx (by lia),YM,Nat.min_eq_left (by lia),aY (by lia)]
 ·rw[ZO (by rw[Zi,Zu,av];lia),ZO (by rw[av];lia)]
theorem BJ{n:Nat}{ts:Nat->Addr}(h:3<=n):bj (aw n ts) (some 2) (some (-1))=aw (n-3) (fun j=>ts (2+j)):=by
 unfold bj;have e1:HT.sIx (aw n ts).length 0 (some 2)=2:=by
  rw[show HT.sIx (aw n ts).length 0 (some 2)=min 2 (aw n ts).length from HT.sIx_nat _ _ 2,av];lia
 have e2:HT.sIx (aw n ts).length (aw n ts).length (some (-1))=n-1:=by
  show (if (-1:Int)<0 then ((-1:Int)+((aw n ts).length:Int)).toNat else min (-1:Int).toNat (aw n ts).length)=_
  rw[if_pos (by decide),av];lia
 rw[e1,e2];apply X4;intro i;by_cases c:i<n-3
 ·rw[aY c,Yx (by lia),YM,aY (by lia)]
 ·rw[ZO (by rw[Zi,Zu,av];lia),ZO (by rw[av];lia)]
noncomputable def bhN(n k:Nat):Nat:=if k=0 then n-3 else n-(k+2)
theorem B7{cs:List Pt}(h3:3<=cs.length)(h:∀k,k<cs.length->∀j,j<bhN cs.length k->cg (at' cs k) (at' cs (nx cs.length k)) (at' cs (k+2+j)) (at' cs (nx cs.length (k+2+j)))=false):¬lU cs:=by
 have main:∀i j,i<j->j<cs.length->nx cs.length i≠j->nx cs.length j≠i->cg (at' cs i) (at' cs (nx cs.length i)) (at' cs j) (at' cs (nx cs.length j))=false:=by
  intro i j hij hj n1 n2
  have:=h i (by lia) (j-(i+2)) (by unfold bhN;unfold nx at n1 n2;(repeat' split at n1)<;>(repeat' split at n2)<;>(repeat' split)<;>lia)
  have e:i+2+(j-(i+2))=j:=by unfold nx at n1;(repeat' split at n1)<;>lia
  rw[e]at this;exact this
 rintro⟨i,j,hi,hj,h1,h2,h3',hm⟩;rcases Nat.lt_or_gt_of_ne h1 with g|g
 ·rw[main i j g hj h2 h3']at hm;exact ZM hm
 ·have hm':=iA.mp (iA.mpr hm).symm;rw[main j i g hi h3' h2]at hm';exact ZM hm'
section
variable{P:Zv}{w:Zl}{K:Z3}{mg:Str->Option Value}{base:ZF}{f:Addr}{fd:Zf}
theorem fL:aD ["corners","sides","k","side","behind","other"] ["corners"] (aq kD):=.mk'
theorem tO(F:Fun K "some_sides_meet" "some_sides_meet" kD f fd)(cS:Cal P w K mg base 1 "sides_of" ["corners"] gK)(cM:Cal P w K mg base 3 "sides_meet" ["start","end","other_start","other_end"] rH)(m1:mg "enumerate" = none):aI P w K mg base CX0 4 f fd ["corners"] mU:=by
 refine F.ok fL (by rintro _ _ _ _⟨l,rf,cs,rfl,_⟩;rfl) fun E3 A outer s H vs Q E hr h=>?_
 obtain⟨l,rf,cs,rfl,hp,co,n3,n4,q⟩:=h;refine⟨_,aB (aE (i:=1) fL.nd (ay cS hr (pa1 (pv 0))))
  (aB (gU Yb rfl (B9 rfl m1 (pa1 (pv 1))) (mV rfl (bw (aM (i:=2) fL.nd rfl (ZQ rfl)) (bw (aM (i:=3) fL.nd rfl (ZQ rfl)) e8)))
   (aB (aE (i:=4) fL.nd (lR (aQ fJ (pv 2) ad) (bH bZ (pv 1) (bP (ai bE (pv 2) ad)) cN) (bH bZ (pv 1) (bP ad) (bP (nX kw ad)))))
   (ap (gU Yb rfl (bp (pv 4)) (aM (i:=5) fL.nd rfl (ZQ rfl))
    (ap (aZ (c7 (ay cM hr (pa4 (ak ax (pv 3) ad) (ak ax (pv 3) ad) (ak ax (pv 5) ad) (ak ax (pv 5) ad)))) (ap (aC eJ)) aL))))))
  (ap (aC eJ))),?_⟩
 refine⟨_,rfl,l,rf,cs,rfl,hp,by lia,n4,fun r ts H1 s1 EN=>?_⟩
 refine⟨_,rfl,r,rfl,⟨_,SqL.of EN.1⟩,?_⟩;have lenN:(aw cs.length ts).length=cs.length:=av;refine Az (xs:=aw cs.length ts) (fun i σ H'=>(∃x2 x3 x4 x5,σ=[some (.ref l),some (.ref r),x2,x3,x4,x5])/\au H1 H'/\
   ∀k,k<i->∀j,j<bhN cs.length k->cg (at' cs k) (at' cs (nx cs.length k)) (at' cs (k+2+j)) (at' cs (nx cs.length (k+2+j)))=false)
  ⟨⟨none,none,none,none,rfl⟩,au.refl _,fun k hk=>absurd hk (by lia)⟩ (fun i σ H' _ hI=>SqL.of (hI.2.1 _ _ EN.1)) ?_ ?_
 ·rintro i x σ H' T hx ⟨⟨x2,x3,x4,x5,rfl⟩,sH,Fp⟩ hT;obtain⟨hi,rfl⟩:=bN hx;have sT:=ao hT (.tup [.int i,.ref (ts i)]);have s2:au H1 (upd H' T (.tup [.int i,.ref (ts i)])):=sH.trans sT;refine⟨T,_,rfl,SqT.of aj,rfl,_,_,rfl,_,_,rfl,rfl,?_⟩;generalize upd H' T (.tup [.int i,.ref (ts i)])=H2 at *
  have inner:∀(p:Addr) (H3:Hp),au H1 H3->H3 p=some (.lst (aw (bhN cs.length i) fun j=>ts (i+2+j)))->
    DG (jL K (dz 4)) (dX 5) (vN (tB (jK rH [] E0 (dG (tOp (ou K) (dz 3) (tC (.int 0))) (dG (tOp (ou K) (dz 3) (tC (.int 1))) (dG (tOp (ou K) (dz 5) (tC (.int 0))) (dG (tOp (ou K) (dz 5) (tC (.int 1))) j7)))))) (jJ (tC (.bl true))) AO)
     {nx:=fun σ H'=>(∃x2 x3 x4 x5,σ=[some (.ref l),some (.ref r),x2,x3,x4,x5])/\au H1 H'/\
         ∀k,k<i+1->∀j,j<bhN cs.length k->cg (at' cs k) (at' cs (nx cs.length k)) (at' cs (k+2+j)) (at' cs (nx cs.length (k+2+j)))=false,rt:=Q,
      bk:=fun σ H'=>jJ (tC (.bl false)) {nx:=fun _ H'=>Q .non H',rt:=Q} σ H',
      ct:=fun σ H'=>(∃x2 x3 x4 x5,σ=[some (.ref l),some (.ref r),x2,x3,x4,x5])/\au H1 H'/\
         ∀k,k<i+1->∀j,j<bhN cs.length k->cg (at' cs k) (at' cs (nx cs.length k)) (at' cs (k+2+j)) (at' cs (nx cs.length (k+2+j)))=false}
     [some (.ref l),some (.ref r),some (.int i),some (.ref (ts i)),some (.ref p),x5] H3:=by
   intro p H3 s3 hb;refine⟨_,rfl,p,rfl,⟨_,SqL.of hb⟩,?_⟩;refine rP (xs:=aw (bhN cs.length i) fun j=>ts (i+2+j)) (fun m σ H'=>(∃x5,σ=[some (.ref l),some (.ref r),some (.int i),some (.ref (ts i)),some (.ref p),x5])/\H'=H3/\
    ∀j,j<m->cg (at' cs i) (at' cs (nx cs.length i)) (at' cs (i+2+j)) (at' cs (nx cs.length (i+2+j)))=false) ⟨⟨_,rfl⟩,rfl,fun j hj=>absurd hj (by lia)⟩ (fun m σ H' _ hI=>by rw[hI.2.1];exact SqL.of hb) ?_ ?_
   ·rintro m y σ H' hy ⟨⟨x5,rfl⟩,rfl,hno2⟩;obtain⟨hm,rfl⟩:=bN hy;have hj:i+2+m<cs.length:=by unfold bhN at hm;split at hm<;>lia
    have t1:=s3 _ _ (EN.2 i hi);have t2:=s3 _ _ (EN.2 (i+2+m) hj);have pP:∀k,k<cs.length->PtA H' (rf k) (at' cs k):=fun k hk=>s3 _ _ (s1 _ _ (hp.2 k hk));refine⟨_,rfl,_,_,_,_,rfl,rfl,SqT.of t1,at0,_,rfl,_,_,_,_,rfl,rfl,SqT.of t1,at1,_,rfl,_,_,_,_,rfl,rfl,SqT.of t2,at0,_,rfl,_,_,_,_,rfl,rfl,SqT.of t2,at1,
     _,_,_,_,_,_,_,_,rfl,pP _ hi,pP _ (aK hi),pP _ hj,pP _ (aK hj),co _ hi,co _ (aK hi),co _ hj,co _ (aK hj),_,rfl,?_⟩
    refine aU (fun c=>?_) (fun c=>?_)
    ·refine q true H' (s1.trans s3) ⟨fun _=>?_,fun _=>rfl⟩;refine⟨i,i+2+m,hi,hj,by lia,?_,?_,c⟩
     ·unfold nx;split<;>lia
     ·unfold bhN at hm;unfold nx;(repeat' split)<;>(split at hm)<;>lia
    ·refine⟨⟨_,rfl⟩,rfl,fun j hj'=>?_⟩;by_cases e:j=m
     ·subst e;exact Yq.mpr c
     ·exact hno2 j (by lia)
   ·rintro σ H' ⟨⟨x5,rfl⟩,rfl,hno2⟩;rw[av]at hno2;refine⟨⟨_,_,_,_,rfl⟩,s3,fun k hk=>?_⟩;by_cases e:k=i
    ·subst e;exact hno2
    ·exact Fp k (by lia)
  refine⟨_,rfl,_,_,rfl,rfl,_,rfl,?_⟩;refine aU (fun c=>?_) (fun c=>?_)
  ·have c':=Zx c;refine⟨_,rfl,_,rfl,_,_,rfl,rfl,_,rfl,r,_,rfl,SqL.of (s2 _ _ EN.1),fun p hp'=>?_⟩;have s4:=ao hp' (.lst (bj (aw cs.length ts) (some ((i:Int)+2)) none));refine inner p _ (s2.trans s4) ?_;rw[aj];have e:((i:Int)+2)=((i+2:Nat):Int):=by lia
   rw[e,jU];have e2:bhN cs.length i=cs.length-(i+2):=by unfold bhN;rw[if_neg (by lia)]
   rw[e2]
  ·have c':¬(0:Int)<(i:Int):=fun z=>c (Zt z);have i0:i=0:=by lia
   subst i0;refine⟨_,rfl,_,rfl,_,rfl,_,rfl,r,_,rfl,SqL.of (s2 _ _ EN.1),fun p hp'=>?_⟩;have s4:=ao hp' (.lst (bj (aw cs.length ts) (some 2) (some (-1))));refine inner p _ (s2.trans s4) ?_;rw[aj,BJ n3];have e2:bhN cs.length 0=cs.length-3:=by unfold bhN;rw[if_pos rfl]
   rw[e2]
 ·rintro σ H' ⟨_,sH,Fp⟩;rw[lenN]at Fp;exact q false H' (s1.trans sH) ⟨fun z=>ZM z,fun z=>absurd z (B7 n3 Fp)⟩
end
end FD
end
section
namespace L2
open PySem PySem.Spec PyProof.Rows
section
variable{X:Cx}{scope:XQ}{N':List Str}{C:Addr}{cl:List (Str×Addr)}{fp:List Addr}{aa:List (Addr×Obj)}{s₂:Shared}{H₂:Hp}
theorem bG:IxR (bq X scope N' C cl fp aa s₂ H₂) (ou X.K):=ax
theorem gr:IxR (bq X scope N' C cl fp aa s₂ H₂) (y8 X.K):=aH
theorem gJ{es:List ZN}{k:Nat}{t:TGs}{n:Nat}{pos:Pos}(hc:X.calm=true)(h:PGs (bq X scope N' C cl fp aa s₂ H₂) es t)
  (hn:(assignEach es (bq X scope N' C cl fp aa s₂ H₂).env).length=n:=by rfl)(EA:(assignEach es (bq X scope N' C cl fp aa s₂ H₂).env).findIdx? (·.1)=none:=by rfl):PG (bq X scope N' C cl fp aa s₂ H₂) (.Tuple es k pos) (vE X.K n t):=mV hc h hn EA
end
theorem bA{X:Cx}{elt iter tg:ZN}{ifs:List ZN}{scope:XQ}{pos:Pos}{N':List Str}{own:Nat}{ag:List Nat}{wi:TI}{g:TG}{tt:TT}{te:TE}(hc:X.calm=true)(S:aO X scope N' own ag)(hi:PI X tg iter wi)
  (hg:∀C cl fp aa s₂ H₂,PG (bq X scope N' C cl fp aa s₂ H₂) tg g)(ht:∀C cl fp aa s₂ H₂,PFs (bq X scope N' C cl fp aa s₂ H₂) ifs tt)(he:∀C cl fp aa s₂ H₂,PE (bq X scope N' C cl fp aa s₂ H₂) elt te)
  (hs:∀x,foldedSetIterable iter X.env x=pure x:=by intro _;rfl):PE X (.ListComp elt [⟨tg,iter,ifs,0⟩] scope pos) (h_ wi own ag g tt te):=
 A5 hc S hi (fun C cl fp aa s₂ H₂=>⟨hg C cl fp aa s₂ H₂,ht C cl fp aa s₂ H₂,he C cl fp aa s₂ H₂⟩) hs
theorem db{X:Cx}{elt iter tg:ZN}{ifs:List ZN}{scope:XQ}{pos:Pos}{N':List Str}{own:Nat}{ag:List Nat}{wi:TI}{g:TG}{tt:TT}{te:TE}{i:Nat}{y:Str}{py Fq:Pos}(hc:X.calm=true)(S:aO X scope N' own ag)(hN:X.N.Nodup)(Gf:X.N[i]?=some y)(hy:Loc X.env.scope y)(hi:PI X tg iter wi)
  (hg:∀C cl fp aa s₂ H₂,PG (bq X scope N' C cl fp aa s₂ H₂) tg g)(ht:∀C cl fp aa s₂ H₂,PFs (bq X scope N' C cl fp aa s₂ H₂) ifs tt)(he:∀C cl fp aa s₂ H₂,PE (bq X scope N' C cl fp aa s₂ H₂) elt te)
  (FX:swapsWith (.ListComp elt [⟨tg,iter,ifs,0⟩] scope pos) (some (.Name y py)) Fq.line X.env=pure true:=by rfl)
  (hf:X.fn y=true\/X.env.scope.names.lookup y=some .local:=by first|exact .inl rfl|exact .inr rfl|assumption)
  (hs:∀x,foldedSetIterable iter X.env x=pure x:=by intro _;rfl):PS X (.Assign [.Name y py] (.ListComp elt [⟨tg,iter,ifs,0⟩] scope pos) Fq) (me (h_ wi own ag g tt te) (dX i)):=
 wy hc S hN Gf hy hi (fun C cl fp aa s₂ H₂=>⟨hg C cl fp aa s₂ H₂,ht C cl fp aa s₂ H₂,he C cl fp aa s₂ H₂⟩) FX hf hs
end L2
namespace FD
open PySem L2 FF
theorem Bv{cs:List Pt}:FS.eK (fun i=>[(at' cs i).1,(at' cs i).2]) cs.length<cs.length↔¬∀i j,i<cs.length->j<cs.length->at' cs i=at' cs j->i=j:=by
 rw[FS.sv];constructor
 ·rintro⟨a,b,h1,h2,e⟩ h;simp only[WJ,and_true]at e
  have:=h a b (by lia) h2 (YT e.1 e.2)
  lia
 ·intro h;apply Z9;intro no;apply h;intro i j hi hj e;rcases Nat.lt_trichotomy i j with c|c|c
  ·exact absurd ⟨i,j,c,hj,by show [(at' cs i).1,(at' cs i).2]=[(at' cs j).1,(at' cs j).2];rw[e]⟩ no
  ·exact c
  ·exact absurd ⟨j,i,c,hi,by show [(at' cs j).1,(at' cs j).2]=[(at' cs i).1,(at' cs i).2];rw[e]⟩ no
theorem fD{cs:List Pt}:aF cs↔3<=cs.length/\cs.length<=12/\(∀i j,i<cs.length->j<cs.length->at' cs i=at' cs j->i=j)/\¬jN cs/\¬lU cs:=by
 have ne2:∀{i},3<=cs.length->(∀i j,i<cs.length->j<cs.length->at' cs i=at' cs j->i=j)->i<cs.length->at' cs (nx cs.length (nx cs.length i))≠at' cs (nx cs.length i):=by
  intro i h3 inj hi e
  have:=inj _ _ (aK (aK hi)) (aK hi) e
  unfold nx at this
  (repeat' split at this)<;>lia
 constructor
 ·intro F;refine⟨F.lo,F.hi,F.ok.inj,?_,?_⟩
  ·rintro⟨i,hi,hb⟩;exact F.ok.nob i hi ((mC (ne2 F.lo F.ok.inj hi)).mpr hb)
  ·rintro⟨i,j,hi,hj,h1,h2,h3,hm⟩;exact F.ok.nom i j hi hj h1 h2 h3 (iA.mpr hm)
 ·rintro⟨h1,h2,inj,nb,nm⟩;refine⟨h1,h2,inj,fun i hi k=>nb ⟨i,hi,(mC (ne2 h1 inj hi)).mp k⟩,fun i j hi hj a b c k=>nm ⟨i,j,hi,hj,a,b,c,iA.mp k⟩⟩
theorem xN:∀(r:List Pt) (p f:Pt),fR ((Z4 (r.length+1)).map fun i=>cr (at' (p::r) i) (if i=r.length then f else at' (p::r) (i+1)))=pa p r f
 | [],p,f=>by
  show cr p f+0=cr p f;lia
 |x::r,p,f=>by
  have ih:=xN r x f;rw[Zg,VA,Y5,YK];show cr (at' (p::x::r) 0) (if 0=r.length+1 then f else at' (p::x::r) (0+1))+fR _=cr p x+pa x r f
  rw[if_neg (by lia),<-ih]
  congr 2;apply W7;intro i _;show cr (at' (x::r) i) (if i+1=r.length+1 then f else at' (x::r) (i+1))=_
  by_cases c:i=r.length
  ·rw[if_pos (by lia),if_pos c]
  ·rw[if_neg (by lia),if_neg c]
theorem sy{cs:List Pt}(h:1<=cs.length):fR ((Z4 cs.length).map fun i=>cr (at' cs i) (at' cs (nx cs.length i)))=area cs:=by
 match cs,h with
 |c::r,_=>
  have:=xN r c c
  rw[show area (c::r)=pa c r c from rfl,<-this,Zg]
  congr 1;apply W7;intro i hi;have hi:=Zy.mp hi;unfold nx;by_cases e:i=r.length
  ·rw[if_pos (by lia),if_pos e];rfl
  ·rw[if_neg (by lia),if_neg e]
theorem Ei{p q:Pt}(hp:Co p)(hq:Co q):Big p.1/\Big q.2/\Big q.1/\Big p.2:=⟨bv (by have:=hp.1;lia) (by have:=hp.1;lia),bv (by have:=hq.2;lia) (by have:=hq.2;lia),bv (by have:=hq.1;lia) (by have:=hq.1;lia),bv (by have:=hp.2;lia) (by have:=hp.2;lia)⟩
section
variable{P:Zv}{w:Zl}{K:Z3}{mg:Str->Option Value}{base:ZF}{f:Addr}{fd:Zf}
theorem A1:aD ["corners"] ["corners"] (aq rD):=.mk'
theorem zN{t3 t12:Tok}(F:Fun K "is_fence" "is_fence" rD f fd)(cB:Cal P w K mg base 3 "some_side_goes_back" ["corners"] mY)(cM:Cal P w K mg base 4 "some_sides_meet" ["corners"] mU)(ml:mg "len" = none)(ms:mg "set" = none)
  (m3:mg "FEWEST_CORNERS" = some (.int 3 t3))(m12:mg "MOST_CORNERS" = some (.int 12 t12)):aI P w K mg base CX0 5 f fd ["corners"] ox:=by
 refine F.ok A1 (by rintro _ _ _ _⟨l,rf,cs,rfl,_⟩;rfl) fun E3 A outer s H vs Q E hr h=>?_
 obtain⟨l,rf,cs,rfl,hp,co,n4,q⟩:=h;have hu:=hr.un;refine⟨_,aB (aZ (PW.pt (jX (aQ nJ (aN aW rfl ml ZJ (pa1 (pv 0))) (io (v:=.int 3) rfl m3 ⟨_,rfl⟩)) (iO (aQ fJ (aN aW rfl ml ZJ (pa1 (pv 0))) (io (v:=.int 12) rfl m12 ⟨_,rfl⟩))))) (ap (aC eJ)) aL)
  (aB (aZ (aQ nJ (aN qe rfl ml ZJ (pa1 (fC (qO rfl (by show A.units+3+20<_;have:A.units+3+16*4+200<cLine:=hu;lia)) rfl ms VO (pa1 (pv 0))))) (aN aW rfl ml ZJ (pa1 (pv 0)))) (ap (aC eJ)) aL)
  (ap (aC (qP (qJ (ay cB hr (pa1 (pv 0)))) (rG (qJ (ay cM hr (pa1 (pv 0))))))))),?_⟩
 refine⟨_,rfl,l,_,rfl,.inl (SqL.of hp.1),_,_,rfl,rfl,_,rfl,?_⟩;rw[av];refine aU (fun c1=>?_) (fun c1=>?_)
 ·refine c9 ?_;have c1':=Zx c1;exact q false H (au.refl _) ⟨fun z=>ZM z,fun F=>by have:=F.lo;lia⟩
 have c1':¬_:=fun z=>c1 (Zt z);refine⟨_,rfl,l,_,rfl,.inl (SqL.of hp.1),_,_,rfl,rfl,_,rfl,?_⟩;rw[av];refine aU (fun c2=>?_) (fun c2=>?_)
 ·have c2':=Zx c2;exact q false H (au.refl _) ⟨fun z=>ZM z,fun F=>by have:=F.hi;lia⟩
 have c2':¬_:=fun z=>c2 (Zt z);refine⟨_,rfl,l,rf,fun i=>(at' cs i).1,fun i=>(at' cs i).2,cs.length,rfl,SqL.of hp.1,by lia,fun i hi=>hp.2 i hi,fun p hp'=>?_⟩
 have s1:=ao hp' (vK p (FS.eK (fun i=>[(at' cs i).1,(at' cs i).2]) cs.length));refine⟨p,_,rfl,aj,_,rfl,l,_,rfl,.inl (SqL.of (s1 _ _ hp.1)),_,_,rfl,rfl,_,rfl,?_⟩;rw[av];have ki:=Bv (cs:=cs);refine aU (fun c3=>?_) (fun c3=>?_)
 ·have c3':((FS.eK (fun i=>[(at' cs i).1,(at' cs i).2]) cs.length:Nat):Int)<(cs.length:Int):=Zx c3;refine q false _ s1 ⟨fun z=>ZM z,fun F=>?_⟩;exact absurd F.ok.inj (ki.mp (by lia))
 have c3':¬((FS.eK (fun i=>[(at' cs i).1,(at' cs i).2]) cs.length:Nat):Int)<(cs.length:Int):=fun z=>c3 (Zt z);have inj:∀i j,i<cs.length->j<cs.length->at' cs i=at' cs j->i=j:=by
  apply Z9;intro no
  have:=ki.mpr no
  lia
 refine⟨_,rfl,l,rf,cs,rfl,hp.mono s1,co,by lia,n4,fun b hb=>⟨_,rfl,_,rfl,?_⟩⟩
 refine aU (fun c4=>?_) (fun c4=>?_)
 ·have nb:¬jN cs:=fun z=>by
   have:=hb.mpr z
   rw[this]at c4;exact absurd c4 (by decide)
  refine⟨_,rfl,l,rf,cs,rfl,hp.mono s1,co,by lia,n4,fun b2 H2 s2 hb2=>⟨_,rfl,?_⟩⟩
  refine q _ H2 (s1.trans s2) ?_;rw[fD,Yr,<-Bool.not_eq_true,hb2];constructor
  ·intro nm;exact⟨by lia,by lia,inj,nb,nm⟩
  ·rintro⟨_,_,_,_,nm⟩;exact nm
 ·have yb:jN cs:=hb.mp (by cases b with|true=>rfl|false=>exact absurd rfl c4)
  refine q false _ s1 ⟨fun z=>ZM z,fun F=>?_⟩;exact absurd yb (fD.mp F).2.2.2.1
theorem rE:aD ["corners"] ["corners"] (aq la):=.mk'
theorem xu(F:Fun K "refuse_no_fence" "refuse_no_fence" la f fd)(cF:Cal P w K mg base 5 "is_fence" ["corners"] ox):aI P w K mg base CX0 6 f fd ["corners"] eQ:=by
 refine F.ok rE (by rintro _ _ _ _⟨l,rf,cs,rfl,_⟩;rfl) fun E3 A outer s H vs Q E hr h=>?_
 obtain⟨l,rf,cs,rfl,hp,co,fe,q⟩:=h;refine⟨_,ap (aZ (jw (c7 (ay cF hr (pa1 (pv 0))))) bO aL),?_⟩
 refine⟨_,rfl,l,rf,cs,rfl,hp,co,by have:=fe.hi;lia,fun b H' sH hb=>⟨_,rfl,?_⟩⟩
 rw[hb.mpr fe];exact fk (q H' sH)
theorem qr:(["start","end"]:List Str).Nodup:=by decide +kernel
theorem zT:aD ["corners"] ["corners"] (aq lv):=.mk'
theorem xM(F:Fun K "signed_double_area" "signed_double_area" lv f fd)(cS:Cal P w K mg base 1 "sides_of" ["corners"] gK)(m1:mg "sum" = none):aI P w K mg base CX0 2 f fd ["corners"] mz:=by
 refine F.ok zT (by rintro _ _ _ _⟨l,rf,cs,rfl,_⟩;rfl) fun E3 A outer s H vs Q E hr h=>?_
 obtain⟨l,rf,cs,rfl,hp,co,n1,n4,q⟩:=h;refine⟨_,ap (aC (aN (ka rfl) rfl m1 VP (pa1 (bA (N':=["start","end"]) (own:=2) (ag:=[]) rfl (aO.of (sc:=aq lv) (N0:=["corners"]) rfl rfl (by decide +kernel)) (bp (ay cS hr (pa1 (pv 0))))
  (fun C cl fp aa s₂ H₂=>gJ (n:=2) rfl (bw (aM (i:=0) qr rfl (ZQ rfl)) (bw (aM (i:=1) qr rfl (ZQ rfl)) e8))) (fun C cl fp aa s₂ H₂=>bQ)
  (fun C cl fp aa s₂ H₂=>ai bn (ai fH (ak bG (pv 0) ad) (ak bG (pv 1) ad)) (ai fH (ak bG (pv 1) ad) (ak bG (pv 0) ad))))))),?_⟩
 refine⟨_,rfl,l,rf,cs,rfl,hp,n1,n4,fun r ts H1 s1 EN=>?_⟩;refine⟨r,rfl,⟨_,SqL.of EN.1⟩,?_⟩;have pP:∀k,k<cs.length->PtA H1 (rf k) (at' cs k):=fun k hk=>s1 _ _ (hp.2 k hk);refine⟨cs.length,fun i ys H'=>H'=H1/\ys=(Z4 i).map fun i=>V.int (cr (at' cs i) (at' cs (nx cs.length i))),aS (by lia),⟨rfl,rfl⟩,fun ys H' hW=>⟨⟨aw cs.length ts,by rw[hW.1];exact SqL.of EN.1,by rw[av];exact Nat.le_refl _⟩,fun D hD=>?_⟩,
  fun i ys H' hi hW=>⟨⟨aw cs.length ts,_,by rw[hW.1];exact SqL.of EN.1,aY hi⟩,fun x H2 hy=>?_⟩⟩
 ·obtain⟨rfl,rfl⟩:=hW;refine⟨D,(Z4 cs.length).map fun i=>cr (at' cs i) (at' cs (nx cs.length i)),rfl,?_,?_⟩
  ·rw[YK];exact SqL.of aj
  ·rw[sy n1];exact q _ (s1.trans (ao hD _))
 ·obtain⟨rfl,rfl⟩:=hW;obtain⟨rfl,hy⟩:=hy;obtain⟨_,rfl⟩:=bN (hy _ (SqL.of EN.1));have t1:=EN.2 i hi;have b:=Ei (co _ hi) (co _ (aK hi));refine⟨_,_,rfl,SqT.of t1,rfl,_,_,rfl,_,_,rfl,rfl,iL (by decide) (by decide),?_⟩
  refine c9 ?_;refine⟨_,rfl,_,_,_,_,rfl,rfl,SqT.of (pP _ hi),at0,_,rfl,_,_,_,_,rfl,rfl,SqT.of (pP _ (aK hi)),at1,_,_,rfl,rfl,⟨b.1,b.2.1⟩,_,rfl,_,_,_,_,rfl,rfl,SqT.of (pP _ (aK hi)),at0,_,rfl,_,_,_,_,rfl,rfl,SqT.of (pP _ hi),at1,_,_,rfl,rfl,⟨b.2.2.1,b.2.2.2⟩,_,_,rfl,rfl,rfl,?_⟩;rw[Ye,ZU];rfl
theorem xj:aD ["corners"] ["corners"] (aq qA):=.mk'
theorem uj(F:Fun K "double_area" "double_area" qA f fd)(cR:Cal P w K mg base 6 "refuse_no_fence" ["corners"] eQ)(cS:Cal P w K mg base 2 "signed_double_area" ["corners"] mz)(m1:mg "abs" = none):aI P w K mg base CX0 7 f fd ["corners"] kW:=by
 refine F.ok xj (by rintro _ _ _ _⟨l,rf,cs,rfl,_⟩;rfl) fun E3 A outer s H vs Q E hr h=>?_
 obtain⟨l,rf,cs,rfl,hp,co,fe,q⟩:=h;refine⟨_,aB (aV (ay cR hr (pa1 (pv 0)))) (ap (aC (aN gM rfl m1 YV (pa1 (ay cS hr (pa1 (pv 0))))))),?_⟩
 have:=fe.lo
 have:=fe.hi
 refine⟨_,rfl,l,rf,cs,rfl,hp,co,fe,fun H1 s1=>?_⟩;exact⟨_,rfl,l,rf,cs,rfl,hp.mono s1,co,by lia,by lia,fun H2 s2=>⟨_,rfl,q H2 (s1.trans s2)⟩⟩
theorem wT:aD ["corners"] ["corners"] (aq qk):=.mk'
theorem uh(F:Fun K "goes_left" "goes_left" qk f fd)(cR:Cal P w K mg base 6 "refuse_no_fence" ["corners"] eQ)(cS:Cal P w K mg base 2 "signed_double_area" ["corners"] mz):aI P w K mg base CX0 7 f fd ["corners"] se:=by
 refine F.ok wT (by rintro _ _ _ _⟨l,rf,cs,rfl,_⟩;rfl) fun E3 A outer s H vs Q E hr h=>?_
 obtain⟨l,rf,cs,rfl,hp,co,fe,q⟩:=h;refine⟨_,aB (aV (ay cR hr (pa1 (pv 0)))) (ap (aC (fY fJ (ay cS hr (pa1 (pv 0))) ad))),?_⟩
 have:=fe.lo
 have:=fe.hi
 refine⟨_,rfl,l,rf,cs,rfl,hp,co,fe,fun H1 s1=>?_⟩;exact⟨_,rfl,l,rf,cs,rfl,hp.mono s1,co,by lia,by lia,fun H2 s2=>⟨_,_,rfl,rfl,q H2 (s1.trans s2)⟩⟩
end
end FD
end
section
namespace FD
open PySem L2 FF
noncomputable abbrev vv:Stmt:=top 58
noncomputable abbrev vG:Stmt:=top 59
noncomputable abbrev wC:Stmt:=top 60
noncomputable abbrev oi:Stmt:=top 61
noncomputable abbrev oz:Stmt:=top 62
theorem au.updN{H H1:Hp}{l:Addr}{o:HO}(s:au H H1)(h:H l=none):au H (upd H1 l o):=fun b u q=>by rw[aG (a9 q h)];exact s b u q
theorem iH{xs:List V}{n:Nat}{rf:Nat->Addr}(hl:xs.length=n)(h:∀i,i<n->xs[i]?=some (.ref (rf i))):xs=aw n rf:=by
 apply X4;intro i;by_cases c:i<n
 ·rw[h i c,aY c]
 ·rw[ZO (by lia),ZO (by rw[av];lia)]
theorem fw{n:Nat}{rf:Nat->Addr}{t:Addr}:aw n rf++[.ref t]=aw (n+1) (fun i=>if i<n then rf i else t):=by
 refine iH (by rw[Z5,av];rfl) fun i hi=>?_
 by_cases c:i<n
 ·rw[ZL (by rw[av];exact c),aY c,if_pos c]
 ·rw[Y1 (by rw[av];lia),av,if_neg c,show i-n=0 by lia];rfl
theorem sf{n m:Nat}{rf rg:Nat->Addr}:aw n rf++aw m rg=aw (n+m) (fun i=>if i<n then rf i else rg (i-n)):=by
 refine iH (by rw[Z5,av,av]) fun i hi=>?_
 by_cases c:i<n
 ·rw[ZL (by rw[av];exact c),aY c,if_pos c]
 ·rw[Y1 (by rw[av];lia),av,if_neg c,aY (by lia)]
theorem Ad{n:Nat}{rf:Nat->Addr}:(aw n rf).reverse=aw n (fun i=>rf (n-1-i)):=by
 refine iH (by rw[Ze,av]) fun i hi=>?_
 rw[XM (by rw[av];exact hi),av,aY (by lia)]
theorem yr{n k:Nat}{rf:Nat->Addr}:(aw n rf).drop k=aw (n-k) (fun i=>rf (k+i)):=by
 refine iH (by rw[Zu,av]) fun i hi=>?_
 rw[YM,aY (by lia)]
theorem pz{n k:Nat}{rf:Nat->Addr}(h:k<=n):(aw n rf).take k=aw k rf:=by
 refine iH (by rw[Zi,av];lia) fun i hi=>?_
 rw[Yx hi,aY (by lia)]
theorem PLs.at_upd{H H':Hp}{l l':Addr}{rf:Nat->Addr}{cs:List Pt}(h:PLs H l rf cs)(s:au H H'){rg:Nat->Addr}{ds:List Pt}(e:H' l'=some (.lst (aw ds.length rg)))(hd:∀i,i<ds.length->∃j,j<cs.length/\rg i=rf j/\at' ds i=at' cs j):PLs H' l' rg ds:=
 ⟨e,fun i hi=>by obtain⟨j,hj,e1,e2⟩:=hd i hi;rw[e1,e2];exact s _ _ (h.2 j hj)⟩
theorem ur{H H':Hp}{l l':Addr}{rf:Nat->Addr}{cs:List Pt}(h:PLs H l rf cs)(s:au H H')(e:H' l'=some (.lst (aw cs.length rf).reverse)):PLs H' l' (fun i=>rf (cs.length-1-i)) cs.reverse:=by
 refine h.at_upd s (by rw[e,Ad,Ze]) fun i hi=>⟨cs.length-1-i,?_,rfl,?_⟩
 ·rw[Ze]at hi;lia
 ·rw[Ze]at hi;exact kr hi
theorem li{H:Hp}{l l2 l':Addr}{rf rg:Nat->Addr}{cs ds:List Pt}(h:PLs H l rf cs)(h2:PLs H l2 rg ds){H':Hp}(s:au H H')(e:H' l'=some (.lst (aw cs.length rf++aw ds.length rg))):PLs H' l' (fun i=>if i<cs.length then rf i else rg (i-cs.length)) (cs++ds):=by
 refine⟨by rw[e,sf,Z5],fun i hi=>?_⟩
 rw[Z5]at hi;rw[bS];by_cases c:i<cs.length
 ·simp only[if_pos c];exact s _ _ (h.2 i c)
 ·simp only[if_neg c];exact s _ _ (h2.2 (i-cs.length) (by lia))
theorem rK{H H':Hp}{l l':Addr}{rf:Nat->Addr}{cs:List Pt}(h:PLs H l rf cs)(s:au H H')(e:H' l'=some (.lst (aw cs.length rf))):PLs H' l' rf cs:=⟨e,fun i hi=>s _ _ (h.2 i hi)⟩
noncomputable def Scr(K:Z3)(H:Hp)(a:Addr)(ns:List Int):Prop:=SqL K H a (ns.map V.int)/\ns.length<=63
theorem Scr.mono{K:Z3}{H H':Hp}{a:Addr}{ns:List Int}(h:Scr K H a ns)(s:au H H'):Scr K H' a ns:=⟨s.seq h.1,h.2⟩
noncomputable def nq(K:Z3):Sp:=fun vs H Q _=>∃a ns k,vs=[.ref a,.int ((k:Nat):Int)]/\Scr K H a ns/\Q (.int (cell ns k)) H
noncomputable def ym:Sp:=fun vs H Q _=>∃c k b,vs=[.int c,.int k,.int b]/\0<b/\(-(2^60)<k/\k<2^60)/\Q (.int (draw c k b)) H
noncomputable def xt(K:Z3):Sp:=fun vs H Q _=>∃a ns f,vs=[.ref a,.int ((f:Nat):Int)]/\Scr K H a ns/\∀r lo hi rl rh H',au H H'->H' r=some (.lst [.ref lo,.ref hi,.int (cell ns f/5%4)])->PLs H' lo rl (bR ns f)->PLs H' hi rh (bD ns f)->Q (.ref r) H'
noncomputable def sh:Sp:=fun vs H Q _=>∃lo hi ah rl rh L Hs,vs=[.ref lo,.ref hi,.int ah]/\PLs H lo rl L/\PLs H hi rh Hs/\2<=L.length/\L.length<=100/\2<=Hs.length/\Hs.length<=100/\∀r rf H',au H H'->PLs H' r rf (bC L Hs ah)->Q (.ref r) H'
noncomputable def qC:Sp:=fun vs H Q _=>∃c,vs=[.int c]/\∀r rf H',au H H'->PLs H' r rf (c6 c)->Q (.ref r) H'
section
variable{P:Zv}{w:Zl}{K:Z3}{mg:Str->Option Value}{base:ZF}{f:Addr}{fd:Zf}
theorem Cn:aD ["script","k"] ["script","k"] (aq vv):=.mk'
theorem BG{n:Nat}(F:Fun K "_law_cell_at" "_law_cell_at" vv f fd)(ml:mg "len" = none):aI P w K mg base CX0 (n+1) f fd ["script","k"] (nq K):=by
 refine F.ok Cn (by rintro _ _ _ _⟨a,ns,k,rfl,_⟩;rfl) fun E3 A outer s H vs Q E hr h=>?_
 obtain⟨a,ns,k,rfl,hS,q⟩:=h;refine⟨_,aB (aZ (aQ nJ (pv 1) (aN aW rfl ml ZJ (pa1 (pv 0)))) (ap (aC (ak aH (pv 0) (pv 1)))) aL) (ap (aC ad)),?_⟩;refine⟨_,rfl,_,rfl,a,_,rfl,.inl hS.1,_,_,rfl,rfl,_,rfl,?_⟩;rw[Z6];refine aU (fun c=>?_) (fun c=>?_)
 ·have c':=Zx c;have hk:k<ns.length:=by lia
  refine⟨_,rfl,_,rfl,a,_,_,.int (cell ns k),rfl,rfl,hS.1,c8 ?_,q⟩;rw[Zn,Z2 hk];unfold cell;rw[Z0,Z2 hk];rfl
 ·have c':¬_:=fun z=>c (Zt z);have e:cell ns k=0:=by unfold cell;rw[Z0,ZO (by lia)];rfl
  rw[e]at q;exact q
theorem rS:aD ["cell","k","bound","stir"] ["cell","k","bound"] (aq vG):=.mk'
theorem Cj{n:Nat}(F:Fun K "_law_draw" "_law_draw" vG f fd):aI P w K mg base CX0 (n+1) f fd ["cell","k","bound"] ym:=by
 refine F.ok rS (by rintro _ _ _ _⟨c,k,b,rfl,_⟩;rfl) fun E3 A outer s H vs Q E hr h=>?_
 obtain⟨c,k,b,rfl,hb,hk,q⟩:=h;refine⟨_,aB (aE (i:=3) rS.nd (ai dB (ai jq (ai bE (ai bE (ai dB (pv 0) ad) (ai jq ad (pv 1))) ad) ad) ad))
  (aB (aE (i:=3) rS.nd (ai dB (ai jq (ai bE (pv 3) (ai jq ad (ai bE (pv 1) ad))) ad) ad))
  (ap (aC (ai dB (ai gu (pv 3) ad) (pv 2))))),?_⟩
 refine⟨_,rfl,_,_,rfl,rfl,(show (0:Int)<2147483647 by decide),_,rfl,_,_,rfl,rfl,.inl ⟨by decide,by decide⟩,_,_,rfl,rfl,_,_,rfl,rfl,_,_,rfl,rfl,.inr ⟨by decide,by decide⟩,_,_,rfl,rfl,(show (0:Int)<2147483647 by decide),?_⟩
 refine⟨_,rfl,_,rfl,_,_,rfl,rfl,_,_,rfl,rfl,.inl ⟨by decide,by decide⟩,_,_,rfl,rfl,_,_,rfl,rfl,.inr ⟨by decide,by decide⟩,_,_,rfl,rfl,(show (0:Int)<2147483629 by decide),?_⟩
 exact⟨_,rfl,_,_,rfl,rfl,⟨by decide,by decide⟩,_,rfl,_,_,rfl,rfl,hb,q⟩
theorem gH:aD ["script","first","cell","many","x","lows","highs","k","low"] ["script","first"] (aq wC):=.mk'
theorem BL(F:Fun K "_law_rows_by" "_law_rows_by" wC f fd)(cC:Cal P w K mg base 1 "_law_cell_at" ["script","k"] (nq K))(cD:Cal P w K mg base 1 "_law_draw" ["cell","k","bound"] ym)(mr:mg "range" = none):aI P w K mg base CX0 2 f fd ["script","first"] (xt K):=by
 refine F.ok gH (by rintro _ _ _ _⟨a,ns,k,rfl,_⟩;rfl) fun E3 A outer s H vs Q E hr h=>?_
 obtain⟨a,ns,m,rfl,hS,q⟩:=h;refine⟨_,aB (aE (i:=2) gH.nd (ay cC hr (pa2 (pv 0) (pv 1))))
  (aB (aE (i:=3) gH.nd (ai bE ad (ai dB (pv 2) ad)))
  (aB (aE (i:=4) gH.nd ad)
  (aB (aE (i:=5) gH.nd (bK iI))
  (aB (aE (i:=6) gH.nd (bK iI))
  (aB (gU Yb rfl (eC rfl mr (pa1 (pv 3))) (aM (i:=7) gH.nd rfl (ZQ rfl))
   (aB (aE (i:=8) gH.nd (ai bn (ay cD hr (pa3 (ay cC hr (pa2 (pv 0) (ai bE (pv 1) ad))) (pv 7) ad)) ad))
   (aB (aV (i5 Y3 Xh Xg iV (pv 5) (pa1 (b8 (pa2 (pv 4) (pv 8))))))
   (aB (aV (i5 Y3 Xh Xg iV (pv 6) (pa1 (b8 (pa2 (pv 4) (ai bE (ai bE (pv 8) ad) (ay cD hr (pa3 (ay cC hr (pa2 (pv 0) (ai bE (pv 1) ad))) (pv 7) ad))))))))
   (ap (aE (i:=4) gH.nd (ai bE (ai bE (pv 4) ad) (ay cD hr (pa3 (ay cC hr (pa2 (pv 0) (ai bE (pv 1) ad))) (pv 7) ad)))))))))
  (ap (aC (bK (pa3 (pv 5) (pv 6) (ai dB (ai gu (pv 2) ad) ad)))))))))),?_⟩
 refine⟨_,rfl,_,rfl,a,ns,m,rfl,hS,?_⟩;refine⟨_,rfl,_,_,rfl,rfl,(show (0:Int)<5 by decide),_,_,rfl,rfl,?_⟩
 refine⟨by show 0<=sizeLine;decide,fun lo hlo=>?_⟩
 refine⟨by show 0<=sizeLine;decide,fun hi hhi=>?_⟩
 have EJ:lo≠hi:=fun e=>by rw[<-e,aj]at hhi;cases hhi
 have hhi0:H hi=none:=by rw[aG (Ne.symm EJ)]at hhi;exact hhi
 have hmod:=Int.emod_nonneg (cell ns m) (show (5:Int)≠0 by decide)
 have hmod2:=Int.emod_lt_of_pos (cell ns m) (show (0:Int)<5 by decide)
 refine⟨_,rfl,_,rfl,by lia,by lia,?_⟩
 have eM:(2+cell ns m%5).toNat=b_ (cell ns m):=rfl;rw[eM];have cM:b_ (cell ns m)<=6:=by unfold b_;lia
 generalize hMg:b_ (cell ns m)=M at *
 refine iR (fun i σ H'=>(∃x7 x8,σ=[some (.ref a),some (.int m),some (.int (cell ns m)),some (.int (2+cell ns m%5)),some (.int (xAt (cell ns (m+3)) i)),some (.ref lo),some (.ref hi),x7,x8])/\au H H'/\
   (∃rl,PLs H' lo rl (loL i (xAt (cell ns (m+3))) (dk (cell ns (m+1)))))/\∃rh,PLs H' hi rh (loL i (xAt (cell ns (m+3))) (bL (cell ns (m+1)) (cell ns (m+2)))))
  ⟨⟨none,none,rfl⟩,(au.updN (au.updN (au.refl H) hlo) hhi0),⟨fun _=>lo,by rw[aG EJ,aj];rfl,fun i hi=>absurd hi (by rw[ba];lia)⟩,⟨fun _=>lo,by rw[aj];rfl,fun i hi=>absurd hi (by rw[ba];lia)⟩⟩ ?_ ?_
 ·rintro i σ H' hi' ⟨⟨x7,x8,rfl⟩,sH,⟨rl,hL⟩,rh,hR⟩;have ei:(0:Int)+(i:Int)=(i:Int):=by lia
  rw[ei];have e1:∀j:Nat,((m:Nat):Int)+((j:Nat):Int)=((m+j:Nat):Int):=fun j=>by lia
  have hSm:=hS.mono sH;have bi:-(2^60)<(i:Int)/\(i:Int)<2^60:=by lia
  refine⟨_,rfl,_,rfl,_,_,rfl,rfl,a,ns,m+1,by rw[<-e1 1];rfl,hSm,_,rfl,_,i,9,rfl,by decide,bi,_,_,rfl,rfl,?_⟩
  refine⟨_,rfl,.inl ⟨rfl,_,SqL.of hL.1⟩,_,rfl,_,rfl,by show 2<=sizeLine;decide,fun t ht=>?_⟩
  have st:=ao ht (.tup [.int (xAt (cell ns (m+3)) i),.int (draw (cell ns (m+1)) i 9-4)]);have nlt:lo≠t:=fun e=>by rw[<-e,hL.1]at ht;cases ht
  have nht:hi≠t:=fun e=>by rw[<-e,hR.1]at ht;cases ht
  refine⟨lo,_,_,rfl,rfl,st _ _ hL.1,by rw[av,ba];exact kM (by lia),?_⟩
  have hL2:PLs (upd (upd H' t (.tup [.int (xAt (cell ns (m+3)) i),.int (draw (cell ns (m+1)) i 9-4)])) lo (.lst (aw (loL i (xAt (cell ns (m+3))) (dk (cell ns (m+1)))).length rl++[.ref t]))) lo (fun j=>if j<i then rl j else t) (loL (i+1) (xAt (cell ns (m+3))) (dk (cell ns (m+1)))):=by
   refine⟨by rw[aj,fw,ba,ba],fun j hj=>?_⟩
   rw[ba]at hj;unfold PtA;by_cases c:j<i
   ·have:=hL.2 j (by rw[ba];exact c)
    rw[d_ c]at this;rw[d_ hj];dsimp only;rw[if_pos c];have n1:rl j≠lo:=iZ this hL.1 (by intro z;cases z)
    rw[aG n1];exact st _ _ this
   ·have ej:j=i:=by lia
    subst ej;rw[d_ hj];dsimp only;rw[if_neg c,aG (Ne.symm nlt),aj];rfl
  have hH2:∀b o,b≠lo->H' b=some o->(upd (upd H' t (.tup [.int (xAt (cell ns (m+3)) i),.int (draw (cell ns (m+1)) i 9-4)])) lo (.lst (aw (loL i (xAt (cell ns (m+3))) (dk (cell ns (m+1)))).length rl++[.ref t]))) b=some o:=fun b o hb e=>by rw[aG hb];exact st _ _ e
  have sH2:au H (upd (upd H' t (.tup [.int (xAt (cell ns (m+3)) i),.int (draw (cell ns (m+1)) i 9-4)])) lo (.lst (aw (loL i (xAt (cell ns (m+3))) (dk (cell ns (m+1)))).length rl++[.ref t]))):=au.updN (sH.trans st) hlo;generalize upd (upd H' t (.tup [.int (xAt (cell ns (m+3)) i),.int (draw (cell ns (m+1)) i 9-4)])) lo (.lst (aw (loL i (xAt (cell ns (m+3))) (dk (cell ns (m+1)))).length rl++[.ref t]))=H2 at *
  have hR2:PLs H2 hi rh (loL i (xAt (cell ns (m+3))) (bL (cell ns (m+1)) (cell ns (m+2)))):=by
   refine⟨hH2 _ _ (Ne.symm EJ) hR.1,fun j hj=>?_⟩
   have:=hR.2 j hj
   exact hH2 _ _ (iZ this hL.1 (by intro z;cases z)) this
  have EK:=hS.mono sH2;refine⟨_,rfl,.inl ⟨rfl,_,SqL.of hR2.1⟩,_,rfl,_,rfl,_,_,rfl,rfl,_,rfl,_,rfl,_,_,rfl,rfl,a,ns,m+2,by rw[<-e1 2];rfl,EK,_,rfl,_,i,5,rfl,by decide,bi,_,_,rfl,rfl,by show 2<=sizeLine;decide,fun t2 ht2=>?_⟩
  have Fd:=ao ht2 (.tup [.int (xAt (cell ns (m+3)) i),.int (draw (cell ns (m+1)) i 9-4+1+draw (cell ns (m+2)) i 5)]);have nlt2:lo≠t2:=fun e=>by rw[<-e,hL2.1]at ht2;cases ht2
  have nht2:hi≠t2:=fun e=>by rw[<-e,hR2.1]at ht2;cases ht2
  refine⟨hi,_,_,rfl,rfl,Fd _ _ hR2.1,by rw[av,ba];exact kM (by lia),?_⟩
  have hR3:PLs (upd (upd H2 t2 (.tup [.int (xAt (cell ns (m+3)) i),.int (draw (cell ns (m+1)) i 9-4+1+draw (cell ns (m+2)) i 5)])) hi (.lst (aw (loL i (xAt (cell ns (m+3))) (bL (cell ns (m+1)) (cell ns (m+2)))).length rh++[.ref t2]))) hi (fun j=>if j<i then rh j else t2) (loL (i+1) (xAt (cell ns (m+3))) (bL (cell ns (m+1)) (cell ns (m+2)))):=by
   refine⟨by rw[aj,fw,ba,ba],fun j hj=>?_⟩
   rw[ba]at hj;unfold PtA;by_cases c:j<i
   ·have:=hR2.2 j (by rw[ba];exact c)
    rw[d_ c]at this;rw[d_ hj];dsimp only;rw[if_pos c];have n1:rh j≠hi:=iZ this hR2.1 (by intro z;cases z)
    rw[aG n1];exact Fd _ _ this
   ·have ej:j=i:=by lia
    subst ej;rw[d_ hj];dsimp only;rw[if_neg c,aG (Ne.symm nht2),aj];rfl
  have hH3:∀b o,b≠hi->H2 b=some o->(upd (upd H2 t2 (.tup [.int (xAt (cell ns (m+3)) i),.int (draw (cell ns (m+1)) i 9-4+1+draw (cell ns (m+2)) i 5)])) hi (.lst (aw (loL i (xAt (cell ns (m+3))) (bL (cell ns (m+1)) (cell ns (m+2)))).length rh++[.ref t2]))) b=some o:=fun b o hb e=>by rw[aG hb];exact Fd _ _ e
  have sH3:au H (upd (upd H2 t2 (.tup [.int (xAt (cell ns (m+3)) i),.int (draw (cell ns (m+1)) i 9-4+1+draw (cell ns (m+2)) i 5)])) hi (.lst (aw (loL i (xAt (cell ns (m+3))) (bL (cell ns (m+1)) (cell ns (m+2)))).length rh++[.ref t2]))):=au.updN (sH2.trans Fd) hhi0;generalize upd (upd H2 t2 (.tup [.int (xAt (cell ns (m+3)) i),.int (draw (cell ns (m+1)) i 9-4+1+draw (cell ns (m+2)) i 5)])) hi (.lst (aw (loL i (xAt (cell ns (m+3))) (bL (cell ns (m+1)) (cell ns (m+2)))).length rh++[.ref t2]))=H3 at *
  have hL3:PLs H3 lo (fun j=>if j<i then rl j else t) (loL (i+1) (xAt (cell ns (m+3))) (dk (cell ns (m+1)))):=by
   refine⟨hH3 _ _ EJ hL2.1,fun j hj=>?_⟩
   have:=hL2.2 j hj
   exact hH3 _ _ (iZ this hR2.1 (by intro z;cases z)) this
  have hS3:=hS.mono sH3;refine⟨_,rfl,_,_,rfl,rfl,_,rfl,_,rfl,_,_,rfl,rfl,a,ns,m+3,by rw[<-e1 3];rfl,hS3,_,rfl,_,i,3,rfl,by decide,bi,_,_,rfl,rfl,?_⟩
  exact⟨⟨_,_,rfl⟩,sH3,⟨_,hL3⟩,_,hR3⟩
 ·rintro σ H' ⟨⟨x7,x8,rfl⟩,sH,⟨rl,hL⟩,rh,hR⟩;refine⟨_,rfl,_,rfl,_,rfl,_,_,rfl,rfl,⟨by decide,by decide⟩,_,_,rfl,rfl,(show (0:Int)<4 by decide),by show 3<=sizeLine;decide,fun r hr'=>?_⟩
  have sr:=ao hr' (.lst [.ref lo,.ref hi,.int (cell ns m/5%4)]);refine q r lo hi rl rh _ (sH.trans sr) aj ?_ ?_
  ·unfold bR;rw[hMg];exact hL.mono sr
  ·unfold bD;rw[hMg];exact hR.mono sr
end
end FD
end
section
namespace FD
open PySem L2 FF
theorem via{G:Prop}{K Pm:Hp->Prop}(main:(∀H1,Pm H1->K H1)->G)(af:∀H1,Pm H1->K H1):G:=main af
theorem uZ{H:Hp}{t:Addr}{rt Gm:Nat->Addr}{T T':List Pt}{xs:List V}(h:PLs H t rt T)(e:xs=aw T'.length Gm)(hd:∀i,i<T'.length->∃j,j<T.length/\Gm i=rt j/\at' T' i=at' T j):PLs (upd H t (.lst xs)) t Gm T':=
 ⟨by rw[aj,e],fun i hi=>by
  obtain⟨j,hj,e1,e2⟩:=hd i hi;rw[e1,e2]
  have:=h.2 j hj
  unfold PtA;rw[aG (iZ this h.1 (by intro z;cases z))];exact this⟩
section
variable{P:Zv}{w:Zl}{K:Z3}{mg:Str->Option Value}{base:ZF}{f:Addr}{fd:Zf}
theorem sa:aD ["lows","highs","tips","top"] ["lows","highs","tips"] (aq oi):=.mk'
theorem yB{n:Nat}(F:Fun K "_law_joined" "_law_joined" oi f fd)(ml:mg "list" = none)(Gn:mg "reversed" = none)(mn:mg "len" = none):aI P w K mg base CX0 (n+1) f fd ["lows","highs","tips"] sh:=by
 refine F.ok sa (by rintro _ _ _ _⟨lo,hi,ah,rl,rh,L,Hs,rfl,_⟩;rfl) fun E3 A outer s H vs Q E hr h=>?_
 obtain⟨lo,hi,ah,rl,rh,L,Hs,rfl,hL,hR,l2,l100,r2,r100,q⟩:=h;refine⟨_,aB (aE (i:=3) sa.nd (fC kq rfl ml Xx (pa1 (pv 1))))
  (aB (aZ (aQ be (ai dB (pv 2) ad) ad) (ap (aV (i5 Y3 Wj Wi zV (pv 3) (pa1 ad)))) aL)
  (aB (aZ (PW.pt (gG (aQ fJ (pv 2) ad) (fN (aQ fJ (ai bE (aN aW rfl mn ZJ (pa1 (pv 0))) (aN aW rfl mn ZJ (pa1 (pv 3)))) ad)))) (ap (aV (xl Y3 Wj Wi yg (pv 3)))) aL)
  (ap (aC (ai dL (pv 0) (ic rfl rfl ml rfl Gn (pa1 (pv 3)))))))),?_⟩
 refine⟨_,rfl,hi,_,rfl,.inl (SqL.of hR.1),fun t ht=>?_⟩;have s1:=ao ht (.lst (aw Hs.length rh));have hT:PLs (upd H t (.lst (aw Hs.length rh))) t rh Hs:=rK hR s1 aj;generalize upd H t (.lst (aw Hs.length rh))=H1 at *
 refine⟨_,rfl,_,_,rfl,rfl,(show (0:Int)<2 by decide),rfl,_,rfl,?_⟩
 rw[cX];apply via (Pm:=fun H2=>au H H2/\∃rt,PLs H2 t rt (if ah%2=1 then Hs.eraseIdx 0 else Hs))
 ·intro af;refine aU (fun c=>?_) (fun c=>?_)
  ·have c':ah%2=1:=by simpa using c
   have h0:(aw Hs.length rh)[0]?=some (.ref (rh 0)):=aY (by lia)
   refine⟨_,rfl,.inl ⟨rfl,_,SqL.of hT.1⟩,t,_,0,0,_,rfl,rfl,hT.1,by decide,by decide,?_,h0,?_⟩
   ·rw[av];have hz:(0:Int)<(Hs.length:Int):=by lia
    unfold seqIndex?;have hn:Hs≠[]:=fun z=>by rw[z]at hz;exact absurd hz (by decide)
    simp[hz,hn]
   have hT2:PLs (upd H1 t (.lst ((aw Hs.length rh).eraseIdx 0))) t (fun i=>rh (1+i)) (Hs.eraseIdx 0):=by
    refine uZ hT ?_ fun i hi=>⟨1+i,?_,rfl,?_⟩
    ·rw[YW,YW,<-Ux,yr,Wc]
    ·rw[YW,Wc]at hi;lia
    ·rw[YW,<-Ux];exact cQ
   have s2:au H (upd H1 t (.lst ((aw Hs.length rh).eraseIdx 0))):=au.updN s1 ht;generalize upd H1 t (.lst ((aw Hs.length rh).eraseIdx 0))=H2 at *
   exact af H2 ⟨s2,_,by rw[if_pos c'];exact hT2⟩
  ·have c':¬ah%2=1:=by simpa using c
   exact af H1 ⟨s1,rh,by rw[if_neg c'];exact hT⟩
 rintro H2 ⟨s2,rt,hT2⟩;have hlen:(if ah%2=1 then Hs.eraseIdx 0 else Hs).length<=100/\1<=(if ah%2=1 then Hs.eraseIdx 0 else Hs).length:=by
  split
  ·rw[YW,Wc];lia
  ·lia
 unfold bC at q;simp only at q;generalize (if ah%2=1 then Hs.eraseIdx 0 else Hs)=T at *
 refine⟨_,rfl,_,_,rfl,rfl,_,rfl,?_⟩;apply via (Pm:=fun H3=>au H H3/\∃rt,PLs H3 t rt (if ah>1/\L.length+T.length>3 then T.dropLast else T))
 ·intro af;refine aU (fun c=>?_) (fun c=>?_)
  ·refine⟨_,rfl,lo,_,rfl,.inl (SqL.of (s2 _ _ hL.1)),_,rfl,t,_,rfl,.inl (SqL.of hT2.1),_,_,rfl,rfl,_,_,rfl,rfl,_,rfl,?_⟩;rw[av,av];have c':=Zx c;refine aU (fun d=>?_) (fun d=>?_)
   ·have d':=Zx d;refine⟨_,rfl,.inl ⟨rfl,_,SqL.of hT2.1⟩,t,_,_,rfl,rfl,hT2.1,by rw[av];exact aY (by lia),?_⟩
    have hT3:PLs (upd H2 t (.lst (aw T.length rt).dropLast)) t rt T.dropLast:=by
     refine uZ hT2 ?_ fun i hi=>⟨i,?_,rfl,?_⟩
     ·rw[XN,av,pz (by lia),Yg]
     ·rw[Yg]at hi;lia
     ·rw[Yg]at hi;rw[XN];exact dr hi
    have s3:au H (upd H2 t (.lst (aw T.length rt).dropLast)):=au.updN s2 ht;generalize upd H2 t (.lst (aw T.length rt).dropLast)=H3 at *
    exact af H3 ⟨s3,rt,by rw[if_pos ⟨c',by lia⟩];exact hT3⟩
   ·have d':¬_:=fun z=>d (Zt z);exact af H2 ⟨s2,rt,by rw[if_neg (by lia)];exact hT2⟩
  ·have c':¬_:=fun z=>c (Zt z);exact fk (af H2 ⟨s2,rt,by rw[if_neg (by lia)];exact hT2⟩)
 rintro H3 ⟨s3,rt3,hT3⟩;have hlen3:(if ah>1/\L.length+T.length>3 then T.dropLast else T).length<=100:=by
  split
  ·rw[Yg];lia
  ·lia
 generalize (if ah>1/\L.length+T.length>3 then T.dropLast else T)=T3 at *
 refine⟨_,rfl,_,rfl,t,_,rfl,SqL.of hT3.1,fun p hp=>?_⟩;have s4:=ao hp (.lst (aw T3.length rt3).reverse);have hP:PLs (upd H3 p (.lst (aw T3.length rt3).reverse)) p _ T3.reverse:=ur hT3 s4 aj;have hL3:=hL.mono (s3.trans s4);refine⟨lo,p,_,_,rfl,rfl,hL3.1,hP.1,by rw[av,av,Ze];exact aS (by lia),fun r hr'=>?_⟩
 exact q r _ _ ((s3.trans s4).trans (ao hr' _)) (li hL3 hP (ao hr' _) aj)
theorem jM:aD ["cell","w","h","outer"] ["cell"] (aq oz):=.mk'
theorem yl{n:Nat}(F:Fun K "_law_spiral" "_law_spiral" oz f fd):aI P w K mg base CX0 (n+1) f fd ["cell"] qC:=by
 refine F.ok jM (by rintro _ _ _ _⟨c,rfl,_⟩;rfl) fun E3 A outer s H vs Q E hr h=>?_
 obtain⟨c,rfl,q⟩:=h;refine⟨_,aB (aE (i:=1) jM.nd (ai bE ad (ai dB (pv 0) ad)))
  (aB (aE (i:=2) jM.nd (ai bE ad (ai dB (ai gu (pv 0) ad) ad)))
  (aB (aE (i:=3) jM.nd (bK (da (b8 (pa2 ad ad)) (da (b8 (pa2 (pv 1) ad)) (pa4 (b8 (pa2 (pv 1) (pv 2))) (b8 (pa2 ad (pv 2))) (b8 (pa2 ad ad)) (b8 (pa2 (ai bn (pv 1) ad) ad)))))))
  (ap (aC (ai dL (pv 3) (bK (da (b8 (pa2 (ai bn (pv 1) ad) ad)) (da (b8 (pa2 ad ad)) (pa4 (b8 (pa2 ad (ai bn (pv 2) ad))) (b8 (pa2 (ai bn (pv 1) ad) (ai bn (pv 2) ad))) (b8 (pa2 (ai bn (pv 1) ad) ad)) (b8 (pa2 ad ad))))))))))),?_⟩
 refine⟨_,rfl,_,_,rfl,rfl,(show (0:Int)<3 by decide),_,_,rfl,rfl,?_⟩
 refine⟨_,rfl,_,_,rfl,rfl,⟨by decide,by decide⟩,_,_,rfl,rfl,(show (0:Int)<3 by decide),_,_,rfl,rfl,?_⟩
 refine⟨by show 2<=sizeLine;decide,fun t0 h0=>?_⟩
 have s0:=ao h0 (.tup [.int (0),.int (0)]);have p0:PtA (upd H t0 (.tup [.int (0),.int (0)])) t0 (0,0):=aj;generalize upd H t0 (.tup [.int (0),.int (0)])=H0 at *
 refine⟨_,rfl,by show 2<=sizeLine;decide,fun t1 h1=>?_⟩
 have s1:=ao h1 (.tup [.int ((5+c%3)),.int (0)]);have p1:PtA (upd H0 t1 (.tup [.int ((5+c%3)),.int (0)])) t1 ((5+c%3),0):=aj;generalize upd H0 t1 (.tup [.int ((5+c%3)),.int (0)])=H1 at *
 refine⟨_,rfl,_,rfl,by show 2<=sizeLine;decide,fun t2 h2=>?_⟩
 have s2:=ao h2 (.tup [.int ((5+c%3)),.int ((6+c/3%3))]);have p2:PtA (upd H1 t2 (.tup [.int ((5+c%3)),.int ((6+c/3%3))])) t2 ((5+c%3),(6+c/3%3)):=aj;generalize upd H1 t2 (.tup [.int ((5+c%3)),.int ((6+c/3%3))])=H2 at *
 refine⟨_,rfl,by show 2<=sizeLine;decide,fun t3 h3=>?_⟩
 have s3:=ao h3 (.tup [.int (0),.int ((6+c/3%3))]);have p3:PtA (upd H2 t3 (.tup [.int (0),.int ((6+c/3%3))])) t3 (0,(6+c/3%3)):=aj;generalize upd H2 t3 (.tup [.int (0),.int ((6+c/3%3))])=H3 at *
 refine⟨by show 2<=sizeLine;decide,fun t4 h4=>?_⟩
 have s4:=ao h4 (.tup [.int (0),.int (3)]);have p4:PtA (upd H3 t4 (.tup [.int (0),.int (3)])) t4 (0,3):=aj;generalize upd H3 t4 (.tup [.int (0),.int (3)])=H4 at *
 refine⟨_,rfl,_,_,rfl,rfl,by show 2<=sizeLine;decide,fun t5 h5=>?_⟩
 have s5:=ao h5 (.tup [.int ((5+c%3)-3),.int (3)]);have p5:PtA (upd H4 t5 (.tup [.int ((5+c%3)-3),.int (3)])) t5 ((5+c%3)-3,3):=aj;generalize upd H4 t5 (.tup [.int ((5+c%3)-3),.int (3)])=H5 at *
 refine⟨by show 6<=sizeLine;decide,fun o ho=>?_⟩
 have so:=ao ho (.lst [.ref t0,.ref t1,.ref t2,.ref t3,.ref t4,.ref t5]);have eo:(upd H5 o (.lst [.ref t0,.ref t1,.ref t2,.ref t3,.ref t4,.ref t5])) o=some (.lst [.ref t0,.ref t1,.ref t2,.ref t3,.ref t4,.ref t5]):=aj;generalize upd H5 o (.lst [.ref t0,.ref t1,.ref t2,.ref t3,.ref t4,.ref t5])=Ho at *
 refine⟨_,rfl,_,rfl,_,_,rfl,rfl,by show 2<=sizeLine;decide,fun t6 h6=>?_⟩
 have s6:=ao h6 (.tup [.int ((5+c%3)-3),.int (4)]);have p6:PtA (upd Ho t6 (.tup [.int ((5+c%3)-3),.int (4)])) t6 ((5+c%3)-3,4):=aj;generalize upd Ho t6 (.tup [.int ((5+c%3)-3),.int (4)])=H6 at *
 refine⟨by show 2<=sizeLine;decide,fun t7 h7=>?_⟩
 have s7:=ao h7 (.tup [.int (1),.int (4)]);have p7:PtA (upd H6 t7 (.tup [.int (1),.int (4)])) t7 (1,4):=aj;generalize upd H6 t7 (.tup [.int (1),.int (4)])=H7 at *
 refine⟨_,rfl,_,_,rfl,rfl,by show 2<=sizeLine;decide,fun t8 h8=>?_⟩
 have s8:=ao h8 (.tup [.int (1),.int ((6+c/3%3)-1)]);have p8:PtA (upd H7 t8 (.tup [.int (1),.int ((6+c/3%3)-1)])) t8 (1,(6+c/3%3)-1):=aj;generalize upd H7 t8 (.tup [.int (1),.int ((6+c/3%3)-1)])=H8 at *
 refine⟨_,rfl,_,_,rfl,rfl,_,rfl,_,_,rfl,rfl,by show 2<=sizeLine;decide,fun t9 h9=>?_⟩
 have s9:=ao h9 (.tup [.int ((5+c%3)-1),.int ((6+c/3%3)-1)]);have p9:PtA (upd H8 t9 (.tup [.int ((5+c%3)-1),.int ((6+c/3%3)-1)])) t9 ((5+c%3)-1,(6+c/3%3)-1):=aj;generalize upd H8 t9 (.tup [.int ((5+c%3)-1),.int ((6+c/3%3)-1)])=H9 at *
 refine⟨_,rfl,_,_,rfl,rfl,by show 2<=sizeLine;decide,fun t10 h10=>?_⟩
 have s10:=ao h10 (.tup [.int ((5+c%3)-1),.int (1)]);have p10:PtA (upd H9 t10 (.tup [.int ((5+c%3)-1),.int (1)])) t10 ((5+c%3)-1,1):=aj;generalize upd H9 t10 (.tup [.int ((5+c%3)-1),.int (1)])=H10 at *
 refine⟨by show 2<=sizeLine;decide,fun t11 FM=>?_⟩
 have s11:=ao FM (.tup [.int (0),.int (1)]);have p11:PtA (upd H10 t11 (.tup [.int (0),.int (1)])) t11 (0,1):=aj;generalize upd H10 t11 (.tup [.int (0),.int (1)])=H11 at *
 refine⟨by show 6<=sizeLine;decide,fun l hl=>?_⟩
 have sl:=ao hl (.lst [.ref t6,.ref t7,.ref t8,.ref t9,.ref t10,.ref t11]);have el:(upd H11 l (.lst [.ref t6,.ref t7,.ref t8,.ref t9,.ref t10,.ref t11])) l=some (.lst [.ref t6,.ref t7,.ref t8,.ref t9,.ref t10,.ref t11]):=aj;generalize upd H11 l (.lst [.ref t6,.ref t7,.ref t8,.ref t9,.ref t10,.ref t11])=Hl at *
 refine⟨o,l,_,_,rfl,rfl,sl _ _ (s11 _ _ (s10 _ _ (s9 _ _ (s8 _ _ (s7 _ _ (s6 _ _ eo)))))),el,by show 12<=sizeLine;decide,fun r hr'=>?_⟩
 have sr:=ao hr' (.lst ([.ref t0,.ref t1,.ref t2,.ref t3,.ref t4,.ref t5]++[.ref t6,.ref t7,.ref t8,.ref t9,.ref t10,.ref t11]));have z11:=sl.trans sr;have z10:=s11.trans z11;have z9:=s10.trans z10;have z8:=s9.trans z9;have z7:=s8.trans z8;have z6:=s7.trans z7;have zo:=s6.trans z6;have z5:=so.trans zo;have z4:=s5.trans z5;have z3:=s4.trans z4;have z2:=s3.trans z3;have z1:=s2.trans z2;have z0:=s1.trans z1;refine q r (fun i=>[t0,t1,t2,t3,t4,t5,t6,t7,t8,t9,t10,t11].getD i t0) _ (s0.trans z0) ⟨aj,fun i hi=>?_⟩
 match i,hi with
 |0,_=>exact z0 _ _ p0
 |1,_=>exact z1 _ _ p1
 |2,_=>exact z2 _ _ p2
 |3,_=>exact z3 _ _ p3
 |4,_=>exact z4 _ _ p4
 |5,_=>exact z5 _ _ p5
 |6,_=>exact z6 _ _ p6
 |7,_=>exact z7 _ _ p7
 |8,_=>exact z8 _ _ p8
 |9,_=>exact z9 _ _ p9
 |10,_=>exact z10 _ _ p10
 |11,_=>exact z11 _ _ p11
 |n+12,h=>exact absurd h (by show ¬n+12<12;lia)
end
end FD
end
section
namespace FD
open PySem L2 FF
noncomputable abbrev qu:Stmt:=top 63
theorem qU{n s:Nat}{ts:Nat->Addr}(h:s<=n):bj (aw n ts) none (some (s:Int))=aw s ts:=by
 unfold bj;rw[HT.sIx_nat,HT.sIx_none,av,V2,Nat.min_eq_left h,Nat.sub_zero];exact pz h
theorem zf{xs:List V}{v:V}(h:xs.getLast?=some v):atI xs (-1)=some v:=by
 have hn:xs≠[]:=fun e=>by rw[e]at h;cases h
 have hl:0<xs.length:=WN.mpr hn;unfold atI ixN;rw[if_neg (by lia),if_pos (by lia)]
 have e:((-1:Int)+(xs.length:Int)).toNat=xs.length-1:=by lia
 rw[e];rw[<-h,List.getLast?_eq_getElem?];rfl
noncomputable def yn:Sp:=fun vs H Q _=>∃l rf cs c,vs=[.ref l,.int c]/\PLs H l rf cs/\1<=cs.length/\cs.length<=100/\∀r rg H',au H H'->PLs H' r rg (flat cs c)->Q (.ref r) H'
theorem Bp{x y g:Int}(h:g∈je x y):g<20:=by
 unfold je at h;obtain⟨k,hk,rfl⟩:=Y9.mp (ZI.mp h).1
 have:=Zy.mp hk
 lia
theorem xI{cs:List Pt}{c:Int}{a:Nat}(ha:(c%cs.length).toNat=a)(h:(je ((at' cs a).1-(at' cs (pv_ cs.length a)).1) ((at' cs a).2-(at' cs (pv_ cs.length a)).2))=[]\/11<cs.length):flat cs c=cs:=by
 unfold flat;rw[ha];simp only;unfold pv_ at h;rcases h with h|h
 ·rw[h];rfl
 ·split
  ·rfl
  ·rw[if_pos h]
theorem wI{cs:List Pt}{c g:Int}{a:Nat}(ha:(c%cs.length).toNat=a)(h:(je ((at' cs a).1-(at' cs (pv_ cs.length a)).1) ((at' cs a).2-(at' cs (pv_ cs.length a)).2)).getLast?=some g)(h2:¬11<cs.length):
  flat cs c=cs.take a++[((at' cs (pv_ cs.length a)).1+((at' cs a).1-(at' cs (pv_ cs.length a)).1)/g*(1+c/12%(g-1)),(at' cs (pv_ cs.length a)).2+((at' cs a).2-(at' cs (pv_ cs.length a)).2)/g*(1+c/12%(g-1)))]++cs.drop a:=by
 unfold flat;rw[ha];simp only;unfold pv_ at *
 rw[h];simp only;rw[if_neg h2]
theorem oW{x y:Int}{i:Nat}:(((Z4 (i+1)).map fun k=>((2+k:Nat):Int)).filter fun k=>x%k==0&&y%k==0)=(((Z4 i).map fun k=>((2+k:Nat):Int)).filter fun k=>x%k==0&&y%k==0)++if (x%(2+(i:Int))==0&&y%(2+(i:Int))==0)=true then [(2+(i:Int))] else []:=by
 rw[Ye,ZU,YX];congr 1;show UM _ [((2+i:Nat):Int)]=_;have e:((2+i:Nat):Int)=2+(i:Int):=by lia
 rw[e,YY]
 rfl
section
variable{P:Zv}{w:Zl}{K:Z3}{mg:Str->Option Value}{base:ZF}{f:Addr}{fd:Zf}
theorem Cw:(["k","x","y"]:List Str).Nodup:=by decide +kernel
theorem iQ:aD ["corners","cell","at","one","x","y","parts_v","k"] ["corners","cell"] (aq qu):=.mk'
theorem Ba{n:Nat}(F:Fun K "_law_flat" "_law_flat" qu f fd)(ml:mg "len" = none)(mr:mg "range" = none):aI P w K mg base CX0 (n+1) f fd ["corners","cell"] yn:=by
 refine F.ok iQ (by rintro _ _ _ _⟨l,rf,cs,c,rfl,_⟩;rfl) fun E3 A outer s H vs Q E hr h=>?_
 obtain⟨l,rf,cs,c,rfl,hp,n1,n4,q⟩:=h;have hu:=hr.un;have hu2:A.units+3+5<cLine:=by have:A.units+3+16*n+200<cLine:=hu;lia
 refine⟨_,aB (aE (i:=2) iQ.nd (ai dB (pv 1) (aN aW rfl ml ZJ (pa1 (pv 0)))))
  (aB (aE (i:=3) iQ.nd (ak aH (pv 0) (ai bn (pv 2) ad)))
  (aB (aE (i:=4) iQ.nd (ai bn (ak ax (ak aH (pv 0) (pv 2)) ad) (ak ax (pv 3) ad)))
  (aB (aE (i:=5) iQ.nd (ai bn (ak ax (ak aH (pv 0) (pv 2)) ad) (ak ax (pv 3) ad)))
  (aB (db (i:=6) (N':=["k","x","y"]) (own:=1) (ag:=[4,5]) rfl (aO.of (sc:=aq qu) (N0:=["corners","cell","at","one","x","y","parts_v","k"]) rfl rfl (by decide +kernel)) iQ.nd rfl (ZQ rfl) (pB rfl mr (pa2 ad ad))
   (fun C cl fp aa s₂ H₂=>aM (i:=0) Cw rfl (ZQ rfl)) (fun C cl fp aa s₂ H₂=>fh (PW.pt (gG (aQ be (ai dB (pv 1) (pv 0)) ad) (fN (aQ be (ai dB (pv 2) (pv 0)) ad))))) (fun C cl fp aa s₂ H₂=>pv 0))
  (aB (aZ (PW.pt (jX (aQ (wG hu2) (pv 6) (bK iI)) (iO (aQ fJ (aN aW rfl ml ZJ (pa1 (pv 0))) ad)))) (ap (aC (pv 0))) aL)
  (aB (aE (i:=7) iQ.nd (ai bE ad (ai dB (ai gu (pv 1) ad) (ai bn (ak aH (pv 6) (nX kw ad)) ad))))
  (ap (aC (ai dL (ai dL (bH bZ (pv 0) cN (bP (pv 2))) (bK (pa1 (b8 (pa2 (ai bE (ak ax (pv 3) ad) (ai jq (ai gu (pv 4) (ak aH (pv 6) (nX kw ad))) (pv 7))) (ai bE (ak ax (pv 3) ad) (ai jq (ai gu (pv 5) (ak aH (pv 6) (nX kw ad))) (pv 7)))))))) (bH bZ (pv 0) (bP (pv 2)) cN)))))))))),?_⟩
 have hn0:(0:Int)<(cs.length:Int):=by lia
 have hm1:=Int.emod_nonneg c (show (cs.length:Int)≠0 by lia)
 have hm2:=Int.emod_lt_of_pos c hn0;obtain⟨a,ha⟩:∃a:Nat,c%(cs.length:Int)=(a:Int):=⟨(c%(cs.length:Int)).toNat,by lia⟩
 have ha':(c%(cs.length:Int)).toNat=a:=by lia
 have han:a<cs.length:=by lia
 have hpv:=qt han;refine⟨_,rfl,_,rfl,l,_,rfl,.inl (SqL.of hp.1),_,_,rfl,rfl,by rw[av];exact hn0,?_⟩
 rw[av];have aP:atI (aw cs.length rf) (c%(cs.length:Int)-1)=some (.ref (rf (pv_ cs.length a))):=by rw[ha];exact jG han
 have aA:atI (aw cs.length rf) (c%(cs.length:Int))=some (.ref (rf a)):=by rw[ha];exact ef han
 refine⟨_,rfl,_,rfl,_,_,rfl,rfl,l,_,_,_,rfl,rfl,SqL.of hp.1,aP,?_⟩;have pA:=hp.2 a han;have pO:=hp.2 _ hpv;refine⟨_,rfl,_,rfl,l,_,_,_,rfl,rfl,SqL.of hp.1,aA,_,_,_,_,rfl,rfl,SqT.of pA,at0,_,rfl,_,_,_,_,rfl,rfl,SqT.of pO,at0,_,_,rfl,rfl,?_⟩;refine⟨_,rfl,_,rfl,l,_,_,_,rfl,rfl,SqL.of hp.1,aA,_,_,_,_,rfl,rfl,SqT.of pA,at1,_,rfl,_,_,_,_,rfl,rfl,SqT.of pO,at1,_,_,rfl,rfl,?_⟩;refine⟨_,_,rfl,by decide,18,fun i ys H'=>H'=H/\ys=((((Z4 i).map fun k=>((2+k:Nat):Int)).filter fun k=>((at' cs a).1-(at' cs (pv_ cs.length a)).1)%k==0&&((at' cs a).2-(at' cs (pv_ cs.length a)).2)%k==0)).map V.int,aS (by decide),⟨rfl,rfl⟩,fun ys H' hW=>⟨by show 18<=18;decide,fun D hD=>?_⟩,fun i ys H' hi hW=>⟨hi,fun x H2 hy=>?_⟩⟩
 rotate_left
 ·obtain⟨rfl,rfl⟩:=hW;obtain⟨rfl,rfl⟩:=hy;refine⟨dC (by decide),?_⟩
  have i0:(0:Int)<2+(i:Int):=by lia
  refine⟨_,rfl,_,rfl,_,_,rfl,rfl,i0,rfl,_,rfl,?_⟩;rw[cX];refine aU (fun c1=>?_) (fun c1=>?_)
  ·refine⟨_,rfl,_,rfl,_,_,rfl,rfl,i0,rfl,_,rfl,?_⟩;rw[cX];refine aU (fun c2=>?_) (fun c2=>?_)
   ·refine⟨_,rfl,rfl,?_⟩;rw[oW,if_pos (by rw[c1,c2];rfl),ZU];rfl
   ·refine⟨rfl,?_⟩;rw[oW,if_neg (by rw[c1];exact c2),ZT]
  ·refine fk ⟨rfl,?_⟩;rw[oW,if_neg (by rw[Yq.mpr c1];exact Zm),ZT]
 obtain⟨rfl,rfl⟩:=hW;have fn:=xI (cs:=cs) (c:=c) ha';have fs:=fun g=>wI (cs:=cs) (c:=c) (g:=g) (a:=a) ha';have dm:∀g,(je ((at' cs a).1-(at' cs (pv_ cs.length a)).1) ((at' cs a).2-(at' cs (pv_ cs.length a)).2)).getLast?=some g->2<=g/\g<20:=by
  intro g hg
  have:=Xm hg
  exact⟨(iM this).1,Bp this⟩
 have eD:(((Z4 18).map fun k=>((2+k:Nat):Int)).filter fun k=>((at' cs a).1-(at' cs (pv_ cs.length a)).1)%k==0&&((at' cs a).2-(at' cs (pv_ cs.length a)).2)%k==0)=je ((at' cs a).1-(at' cs (pv_ cs.length a)).1) ((at' cs a).2-(at' cs (pv_ cs.length a)).2):=rfl;rw[eD];generalize je ((at' cs a).1-(at' cs (pv_ cs.length a)).1) ((at' cs a).2-(at' cs (pv_ cs.length a)).2)=ds at *
 have s1:=ao hD (.lst (ds.map V.int));have hD1:(upd H' D (.lst (ds.map V.int))) D=some (.lst (ds.map V.int)):=aj;generalize upd H' D (.lst (ds.map V.int))=H1 at *
 refine⟨_,rfl,by show 0<=sizeLine;decide,fun p0 hp0=>?_⟩
 have s2:=ao hp0 (.lst []);have hP0:(upd H1 p0 (.lst [])) p0=some (.lst []):=aj;generalize upd H1 p0 (.lst [])=H2 at *
 have hD2:=s2 _ _ hD1;have sA:=s1.trans s2;cases hds:ds.getLast? with
 |none=>
  have e0:ds=[]:=by rwa [List.getLast?_eq_none_iff]at hds
  subst e0;refine⟨D,p0,_,_,rfl,rfl,SqL.of hD2,SqL.of hP0,.inr ⟨rfl,fun _=>true,(fun j x y hx _=>absurd hx (by simp)),_,rfl,?_⟩⟩
  refine c9 (c9 ⟨_,rfl,?_⟩);exact q l rf H2 sA (by rw[fn (.inl rfl)];exact hp.mono sA)
 |some g=>
  have e0:ds≠[]:=fun z=>by rw[z]at hds;cases hds
  have hl0:0<ds.length:=WN.mpr e0;refine⟨D,p0,_,_,rfl,rfl,SqL.of hD2,SqL.of hP0,.inl ⟨by rw[Z6];show ds.length≠0;lia,_,rfl,?_⟩⟩
  refine fk ?_;refine⟨_,rfl,l,_,rfl,.inl (SqL.of (sA _ _ hp.1)),_,_,rfl,rfl,_,rfl,?_⟩;rw[av];refine aU (fun c3=>?_) (fun c3=>?_)
  ·have c3':=Zx c3;exact⟨_,rfl,q l rf H2 sA (by rw[fn (.inr (by lia))];exact hp.mono sA)⟩
  have c3':¬_:=fun z=>c3 (Zt z);have g2:=dm g hds;have hpA:=hp.mono sA;have pO2:=hpA.2 _ hpv;have lst:atI (ds.map V.int) (-1)=some (.int g):=zf (by rw[List.getLast?_map,hds];rfl)
  have k1:=Int.emod_nonneg (c/12) (show g-1≠0 by lia)
  have k2:=Int.emod_lt_of_pos (c/12) (show 0<g-1 by lia)
  refine⟨_,rfl,_,_,rfl,rfl,⟨by decide,by decide⟩,_,rfl,_,rfl,D,_,_,_,rfl,rfl,SqL.of hD2,lst,_,_,rfl,rfl,_,_,rfl,rfl,(show (0:Int)<g-1 by lia),_,_,rfl,rfl,?_⟩
  refine⟨_,rfl,_,rfl,c%(cs.length:Int),rfl,l,_,rfl,SqL.of hpA.1,fun p1 hp1=>?_⟩;have s3:=ao hp1 (.lst (bj (aw cs.length rf) none (some (c%(cs.length:Int)))));have hP1:(upd H2 p1 (.lst (bj (aw cs.length rf) none (some (c%(cs.length:Int)))))) p1=some (.lst (bj (aw cs.length rf) none (some (c%(cs.length:Int))))):=aj;generalize upd H2 p1 (.lst (bj (aw cs.length rf) none (some (c%(cs.length:Int)))))=H3 at *
  rw[ha,qU (by lia)]at hP1
  have pO3:=s3 _ _ pO2;have hD3:=s3 _ _ hD2;refine⟨_,rfl,_,_,_,_,rfl,rfl,SqT.of pO3,at0,_,rfl,_,rfl,_,rfl,D,_,_,_,rfl,rfl,SqL.of hD3,lst,_,_,rfl,rfl,⟨by lia,by lia⟩,_,rfl,_,_,rfl,rfl,.inr ⟨by lia,by lia⟩,_,_,rfl,rfl,
   _,rfl,_,_,_,_,rfl,rfl,SqT.of pO3,at1,_,rfl,_,rfl,_,rfl,D,_,_,_,rfl,rfl,SqL.of hD3,lst,_,_,rfl,rfl,⟨by lia,by lia⟩,_,rfl,_,_,rfl,rfl,.inr ⟨by lia,by lia⟩,_,_,rfl,rfl,by show 2<=sizeLine;decide,fun t ht=>?_⟩
  have s4:=ao ht (.tup [.int ((at' cs (pv_ cs.length a)).1+((at' cs a).1-(at' cs (pv_ cs.length a)).1)/g*(1+c/12%(g-1))),.int ((at' cs (pv_ cs.length a)).2+((at' cs a).2-(at' cs (pv_ cs.length a)).2)/g*(1+c/12%(g-1)))]);have hT:PtA (upd H3 t (.tup [.int ((at' cs (pv_ cs.length a)).1+((at' cs a).1-(at' cs (pv_ cs.length a)).1)/g*(1+c/12%(g-1))),.int ((at' cs (pv_ cs.length a)).2+((at' cs a).2-(at' cs (pv_ cs.length a)).2)/g*(1+c/12%(g-1)))])) t ((at' cs (pv_ cs.length a)).1+((at' cs a).1-(at' cs (pv_ cs.length a)).1)/g*(1+c/12%(g-1)),(at' cs (pv_ cs.length a)).2+((at' cs a).2-(at' cs (pv_ cs.length a)).2)/g*(1+c/12%(g-1))):=aj;generalize upd H3 t (.tup [.int ((at' cs (pv_ cs.length a)).1+((at' cs a).1-(at' cs (pv_ cs.length a)).1)/g*(1+c/12%(g-1))),.int ((at' cs (pv_ cs.length a)).2+((at' cs a).2-(at' cs (pv_ cs.length a)).2)/g*(1+c/12%(g-1)))])=H4 at *
  refine⟨by show 1<=sizeLine;decide,fun p2 hp2=>?_⟩
  have s5:=ao hp2 (.lst [.ref t]);have hP2:(upd H4 p2 (.lst [.ref t])) p2=some (.lst [.ref t]):=aj;generalize upd H4 p2 (.lst [.ref t])=H5 at *
  have s45:=s4.trans s5;have lT:(cs.take a).length=a:=by rw[Zi];lia
  have q1:PLs H5 p1 rf (cs.take a):=hpA.at_upd (s3.trans s45) (by rw[lT];exact s45 _ _ hP1) fun i hi=>⟨i,by lia,rfl,dr (by lia)⟩
  have q2:PLs H5 p2 (fun _=>t) [((at' cs (pv_ cs.length a)).1+((at' cs a).1-(at' cs (pv_ cs.length a)).1)/g*(1+c/12%(g-1)),(at' cs (pv_ cs.length a)).2+((at' cs a).2-(at' cs (pv_ cs.length a)).2)/g*(1+c/12%(g-1)))]:=⟨hP2,fun i hi=>by
   have:i=0:=by simp at hi;exact hi
   subst this;exact s5 _ _ hT⟩
  refine⟨p1,p2,_,_,rfl,rfl,q1.1,q2.1,by rw[av,av,lT];show a+1<=_;exact aS (by lia),fun p3 hp3=>?_⟩
  have s6:=ao hp3 (.lst (aw (cs.take a).length rf++aw 1 (fun _=>t)));have q3:=li q1 q2 s6 aj;have hp6:=hpA.mono ((s3.trans s45).trans s6);have sB:=(sA.trans (s3.trans s45)).trans s6;have e36:upd H5 p3 (.lst (aw (cs.take a).length rf++aw 1 (fun _=>t)))=upd H5 p3 (.lst (aw (cs.take a).length rf++aw [((at' cs (pv_ cs.length a)).1+((at' cs a).1-(at' cs (pv_ cs.length a)).1)/g*(1+c/12%(g-1)),(at' cs (pv_ cs.length a)).2+((at' cs a).2-(at' cs (pv_ cs.length a)).2)/g*(1+c/12%(g-1)))].length (fun _=>t))):=rfl;refine⟨_,rfl,_,rfl,c%(cs.length:Int),rfl,l,_,rfl,SqL.of hp6.1,fun p4 hp4=>?_⟩;have s7:=ao hp4 (.lst (bj (aw cs.length rf) (some (c%(cs.length:Int))) none));have q4:PLs (upd (upd H5 p3 (.lst (aw (cs.take a).length rf++aw 1 (fun _=>t)))) p4 (.lst (bj (aw cs.length rf) (some (c%(cs.length:Int))) none))) p4 (fun j=>rf (a+j)) (cs.drop a):=by
   refine hp6.at_upd s7 (by rw[aj,ha,jU,Zu]) fun i hi=>⟨a+i,?_,rfl,cQ⟩
   rw[Zu]at hi;lia
  have q5:=q3.mono s7;refine⟨p3,p4,_,_,rfl,rfl,q5.1,q4.1,?_,fun r hr'=>?_⟩
  ·rw[av,av,Z5,lT,Zu];show a+1+(cs.length-a)<=_;exact aS (by lia)
  have s8:=ao hr' (.lst (aw (cs.take a++[((at' cs (pv_ cs.length a)).1+((at' cs a).1-(at' cs (pv_ cs.length a)).1)/g*(1+c/12%(g-1)),(at' cs (pv_ cs.length a)).2+((at' cs a).2-(at' cs (pv_ cs.length a)).2)/g*(1+c/12%(g-1)))]).length (fun i=>if i<(cs.take a).length then rf i else (fun _=>t) (i-(cs.take a).length))++aw (cs.drop a).length (fun j=>rf (a+j))))
  have q6:=li q5 q4 s8 aj;rw[<-fs g hds (by lia)]at q6
  exact q r _ _ ((sB.trans s7).trans s8) q6
end
end FD
end
section
namespace FF
end FF
end
section
namespace L2
open PySem PySem.Spec PyProof.Rows
section
variable{X:Cx}
theorem qX{j:Int}(h:Big j):j.natAbs.log2<9000:=by
 have hn:j.natAbs<2^1000:=by
  obtain⟨h1,h2⟩:=h;have e:((2:Int)^1000)=((2^1000:Nat):Int):=by norm_cast
  rw[e]at h1 h2;lia
 rcases Nat.eq_zero_or_pos j.natAbs with h0|hp
 ·rw[h0];decide
 ·have:=(Nat.log2_lt (by lia)).mpr hn
  lia
theorem zA:OpR X (binaryOp .FloorDiv) (rI (fun _ j=>0<j/\Big j) fun i j=>.int (i/j)):=opI fun i j _ _ _ _ _ hc q=>by
 have h1:(0:Int)<j:=hc.1;exact Uh (by lia) (by rw[Int.fdiv_eq_ediv_of_nonneg i (by lia)];exact q) (.inl (Vv (qX hc.2)))
noncomputable def AH(t u:TS):TS:=fun D σ H=>t {D with nx:=fun σ' H'=>∃σ'',σ''=σ'/\u D σ'' H'} σ H
theorem am{st:Stmt}{af:List Stmt}{t u:TS}(h1:PS X st t)(h2:PSs X af u):PSs X (st::af) (AH t u):=by
 intro aa s σ H D I h;refine Wh (thn (h1 aa s σ H {D with nx:=fun σ' H'=>∃σ'',σ''=σ'/\u D σ'' H'} I h) fun f s1 q=>?_)
 cases f with
 |next=>
  obtain⟨σ',H',I',σ'',rfl,q⟩:=q;exact h2 aa s1 σ'' H' D I' q
 |ret v=>exact q
 |brk=>exact q
 |cont=>exact q
noncomputable def qAdd:R2:=fun x y H Q=>∃i j,x=.int i/\y=.int j/\Q (.int (i+j)) H
noncomputable def qSub:R2:=fun x y H Q=>∃i j,x=.int i/\y=.int j/\Q (.int (i-j)) H
noncomputable def DU:R2:=fun x y H Q=>∃i j,x=.int i/\y=.int j/\Dn i j/\Q (.int (i*j)) H
noncomputable def CH:R2:=fun x y H Q=>∃i j,x=.int i/\y=.int j/\0<j/\Q (.int (i%j)) H
noncomputable def DP:R2:=fun x y H Q=>∃i j,x=.int i/\y=.int j/\CK i j/\Q (.int (i/j)) H
noncomputable def Cv:R2:=fun x y H Q=>∃i j,x=.int i/\y=.int j/\(0<j/\Big j)/\Q (.int (i/j)) H
noncomputable def qLt:R2:=fun x y H Q=>∃i j,x=.int i/\y=.int j/\Q (.bl (decide (i<j))) H
noncomputable def qGt:R2:=fun x y H Q=>∃i j,x=.int i/\y=.int j/\Q (.bl (decide (j<i))) H
noncomputable def qGe:R2:=fun x y H Q=>∃i j,x=.int i/\y=.int j/\Q (.bl (decide (j<=i))) H
theorem a_:OpR X (binaryOp .Add) qAdd:=bE
theorem bf:OpR X (binaryOp .Sub) qSub:=bn
theorem a8:OpR X (binaryOp .Mult) DU:=fH
theorem dv:OpR X (binaryOp .Mod) CH:=dB
theorem gl:OpR X (binaryOp .FloorDiv) DP:=gu
theorem gy:OpR X (binaryOp .FloorDiv) Cv:=zA
theorem CU:OpR X (compareOp .Lt) qLt:=nJ
theorem gX:OpR X (compareOp .Gt) qGt:=fJ
theorem CB:OpR X (compareOp .GtE) qGe:=Eb
end
end L2
namespace FD
open PySem L2 FF
noncomputable def Sm(B i:Int):Prop:=-B<=i/\i<=B
theorem iu{i:Int}(h:Sm (10^90) i):Big i:=bv (by have:=h.1;lia) (by have:=h.2;lia)
theorem Sm.mono{B C i:Int}(h:Sm B i)(hB:B<=C):Sm C i:=⟨by have:=h.1;lia,by have:=h.2;lia⟩
theorem gD{A B x y:Int}(h1:Sm A x)(h2:Sm B y):Sm (A*B) (x*y):=by
 obtain⟨x1,x2⟩:=h1;obtain⟨y1,y2⟩:=h2;have k1:=Int.mul_nonneg (show 0<=A-x by lia) (show 0<=B-y by lia)
 have k2:=Int.mul_nonneg (show 0<=A+x by lia) (show 0<=B+y by lia)
 have k3:=Int.mul_nonneg (show 0<=A-x by lia) (show 0<=B+y by lia)
 have k4:=Int.mul_nonneg (show 0<=A+x by lia) (show 0<=B-y by lia)
 have e1:(A-x)*(B-y)=A*B-A*y-x*B+x*y:=by grind
 have e2:(A+x)*(B+y)=A*B+A*y+x*B+x*y:=by grind
 have e3:(A-x)*(B+y)=A*B+A*y-x*B-x*y:=by grind
 have e4:(A+x)*(B-y)=A*B-A*y+x*B-x*y:=by grind
 constructor<;>lia
end FD
end
section
namespace L2
open PySem PySem.Spec PyProof.Rows
theorem fi{X:Cx}{e:ZN}{t t':TE}(h:PE X e t)(w:∀σ H Q,t' σ H Q->t σ H Q):PE X e t':=fun aa s σ H Q I q=>h aa s σ H Q I (w σ H Q q)
theorem BH{X:Cx}{e:Stmt}{t t':TS}(h:PS X e t)(w:∀D σ H,t' D σ H->t D σ H):PS X e t':=fun aa s σ H D I q=>h aa s σ H D I (w D σ H q)
theorem dy.weak{X:Cx}{f:Value}{r r':List V->Hp->VK->Prop}(h:dy X f r)(w:∀xs H Q,r' xs H Q->r xs H Q):dy X f r':=fun aa s σ H xs us Q I v q=>h aa s σ H xs us Q I v (w xs H Q q)
end L2
namespace FD
open PySem PySem.Spec PyProof.Rows L2 FF
theorem i6{X:Cx}:dy X (.type "list") (fun xs H Q=>∃r rf cs,xs=[.ref r]/\PLs H r rf cs/\∀h H',au H H'->PLs H' h rf cs->Q (.ref h) H'):=by
 refine dy.weak kq ?_;rintro xs H Q ⟨r,rf,cs,rfl,hP,q⟩;exact⟨r,_,rfl,.inl (SqL.of hP.1),fun l hl=>q l _ (ao hl _) (rK hP (ao hl _) aj)⟩
noncomputable def Ek(i:Nat):TE:=fun σ H Q=>∃r rf cs,σ[i]?=some (some (.ref r))/\PLs H r rf cs/\∀l rg H',au H H'->PLs H' l rg cs.reverse->Q (.ref l) H'
theorem kN{K:Z3}{i:Nat}(σ:L2.St)(H:Hp)(Q:VK)(h:Ek i σ H Q):sN K (dG (dz i) j7) σ H Q:=by
 obtain⟨r,rf,cs,e,hP,q⟩:=h;exact⟨_,e,r,_,rfl,SqL.of hP.1,fun l hl=>q l _ _ (ao hl _) (ur hP (ao hl _) aj)⟩
noncomputable def tRot(i j:Nat):TE:=fun σ H Q=>∃r rf cs t,σ[i]?=some (some (.ref r))/\σ[j]?=some (some (.int ((t:Nat):Int)))/\PLs H r rf cs/\t<=cs.length/\cs.length<=400/\∀r3 rg H',au H H'->PLs H' r3 rg (cs.drop t++cs.take t)->Q (.ref r3) H'
theorem xo{X:Cx}{a b a' b':ZN}{p2 p3 pos pos' pos'':Pos}{i j:Nat}(h1:PE X a (dz i))(h2:PE X b (dz j))(h3:PE X a' (dz i))(h4:PE X b' (dz j)):
  PE X (.BinOp (.Subscript a (.Slice (some b) none none p2) pos) .Add (.Subscript a' (.Slice none (some b') none p3) pos') pos'') (tRot i j):=by
 refine fi (ai dL (bH bZ h1 (bP h2) cN) (bH bZ h3 cN (bP h4))) ?_;rintro σ H Q ⟨r,rf,cs,t,e1,e2,hP,ht,n4,q⟩;refine⟨_,e1,_,e2,_,rfl,r,_,rfl,SqL.of hP.1,fun p1 hp1=>?_⟩;have s5:=ao hp1 (.lst (bj (aw cs.length rf) (some ((t:Nat):Int)) none));have hQ1:(upd H p1 (.lst (bj (aw cs.length rf) (some ((t:Nat):Int)) none))) p1=some (.lst (bj (aw cs.length rf) (some ((t:Nat):Int)) none)):=aj;generalize upd H p1 (.lst (bj (aw cs.length rf) (some ((t:Nat):Int)) none))=H5 at *
 have hP5:=hP.mono s5;refine⟨_,e1,_,e2,_,rfl,r,_,rfl,SqL.of hP5.1,fun p2 hp2=>?_⟩;have s6:=ao hp2 (.lst (bj (aw cs.length rf) none (some ((t:Nat):Int))));have hQ2:(upd H5 p2 (.lst (bj (aw cs.length rf) none (some ((t:Nat):Int))))) p2=some (.lst (bj (aw cs.length rf) none (some ((t:Nat):Int)))):=aj;generalize upd H5 p2 (.lst (bj (aw cs.length rf) none (some ((t:Nat):Int))))=H6 at *
 rw[jU]at hQ1;rw[qU ht]at hQ2;have s56:=s5.trans s6;have lD:(cs.drop t).length=cs.length-t:=Zu;have lT:(cs.take t).length=t:=by rw[Zi];lia
 have q1:PLs H6 p1 (fun j=>rf (t+j)) (cs.drop t):=hP.at_upd s56 (by rw[lD];exact s6 _ _ hQ1) fun i hi=>⟨t+i,by lia,rfl,cQ⟩
 have q2:PLs H6 p2 rf (cs.take t):=hP.at_upd s56 (by rw[lT];exact hQ2) fun i hi=>⟨i,by lia,rfl,dr (by lia)⟩
 refine⟨p1,p2,_,_,rfl,rfl,q1.1,q2.1,by rw[av,av,lT,lD];exact aS (by lia),fun r3 hr3=>?_⟩
 have s7:=ao hr3 (.lst (aw (cs.drop t).length (fun j=>rf (t+j))++aw (cs.take t).length rf));exact q r3 _ _ (s56.trans s7) (li q1 q2 s7 aj)
noncomputable def tPtT(t:TA):TE:=fun σ H Q=>t σ H fun xs H2=>∃i j,xs=[.int i,.int j]/\∀t H',au H2 H'->PtA H' t (i,j)->Q (.ref t) H'
theorem dW{X:Cx}{es:List ZN}{t:TA}{x1}{pos:Pos}(h:PA X es t):PE X (.Tuple es x1 pos) (tPtT t):=by
 intro aa s σ H Q I hq;refine U8 (thn (h pos aa s σ H _ I hq) fun us s1 zz=>?_);obtain⟨xs,H1,I1,r,i,j,e,q⟩:=zz;subst e;have z:([V.int i,V.int j]:List V).length<=sizeLine:=by show 2<=sizeLine;decide
 refine⟨by rw[<-r.length];exact z,?_⟩
 have hn:H1 s1.heap.objs.size=none:=I1.hok.fresh (Nat.le_refl _);refine⟨.ref s1.heap.objs.size,upd H1 s1.heap.objs.size (.tup [.int i,.int j]),I1.laid (t':=s1.toks) (fun b o e=>Z8 _ e) (Nat.le_refl _) ?_,rfl,q _ _ (ao hn _) aj⟩;exact⟨z,us,r,⟨_,Zk _ rfl,rfl,_,rfl⟩⟩
noncomputable def Di(i own:Nat)(ag:List Nat)(g:TG)(te:TE):TE:=fun σ H Q=>∃(a:Addr) (rf:Nat->Addr) (cs:List Pt) (gf:Pt->Pt),σ[i]?=some (some (.ref a))/\PLs H a rf cs/\cs.length<=400/\
 (∀k,k<cs.length->∀H',au H H'->∀Q':VK,(∀t H4,au H' H4->PtA H4 t (gf (at' cs k))->Q' (.ref t) H4)->g (.ref (rf k)) (compσ own ag σ) H' fun σ2 H2=>dh own ag σ σ2/\te σ2 H2 Q')/\
 ∀D rg H',au H H'->PLs H' D rg (cs.map gf)->Q (.ref D) H'
theorem rM{K:Z3}{i own:Nat}{ag:List Nat}{g:TG}{te:TE}(gm:∀x σ H Q Q',(∀s h,Q s h->Q' s h)->g x σ H Q->g x σ H Q')(σ:L2.St)(H:Hp)(Q:VK)(h:Di i own ag g te σ H Q):h_ (jL K (dz i)) own ag g (fun _ H Q=>Q true H) te σ H Q:=by
 obtain⟨a,rf,cs,gf,e,hP,n4,el,q⟩:=h;refine⟨_,e,a,rfl,⟨_,SqL.of hP.1⟩,cs.length,fun i ys H'=>au H H'/\∃ts,ys=aw i ts/\∀j,j<i->PtA H' (ts j) (gf (at' cs j)),aS (by lia),⟨au.refl _,fun _=>a,rfl,fun j hj=>absurd hj (by lia)⟩,
  fun ys H' hW=>⟨⟨aw cs.length rf,SqL.of (hW.1 _ _ hP.1),by rw[av];exact Nat.le_refl _⟩,fun D hD=>?_⟩,fun i ys H' hi hW=>⟨⟨aw cs.length rf,_,SqL.of (hW.1 _ _ hP.1),aY hi⟩,fun x H3 hy=>?_⟩⟩
 ·obtain⟨sW,ts,rfl,hts⟩:=hW;have s9:=ao hD (.lst (aw cs.length ts));refine q D ts _ (sW.trans s9) ⟨by rw[aj,Z6],fun j hj=>?_⟩
  rw[Z6]at hj;rw[eZ hj];exact s9 _ _ (hts j hj)
 ·obtain⟨sW,ts,rfl,hts⟩:=hW;obtain⟨rfl,hy⟩:=hy;obtain⟨_,rfl⟩:=bN (hy _ (SqL.of (sW _ _ hP.1)));refine gm _ _ _ _ _ (fun σ2 H2 z=>⟨z.1,c9 z.2⟩) (el i hi _ sW (fun v H4=>au H H4/\∃ts',aw i ts++[v]=aw (i+1) ts'/\∀j,j<i+1->PtA H4 (ts' j) (gf (at' cs j))) fun t H4 s4 hp4=>?_);refine⟨sW.trans s4,fun j=>if j<i then ts j else t,fw,fun j hj=>?_⟩
  by_cases e:j<i
  ·dsimp only;rw[if_pos e];exact s4 _ _ (hts j e)
  ·have ej:j=i:=by lia
   subst ej;dsimp only;rw[if_neg e];exact hp4
theorem jC{i:Nat}(x:V)(σ:L2.St)(H:Hp)(Q Q':L2.St->Hp->Prop)(w:∀s h,Q s h->Q' s h)(h:dX i x σ H Q):dX i x σ H Q':=w _ _ h
theorem xk{K:Z3}{n i j:Nat}(x:V)(σ:L2.St)(H:Hp)(Q Q':L2.St->Hp->Prop)(w:∀s h,Q s h->Q' s h)(h:vE K n (ni (dX i) (ni (dX j) y4)) x σ H Q):vE K n (ni (dX i) (ni (dX j) y4)) x σ H Q':=by
 obtain⟨a,xs,e,s,l,v,r,e1,v2,r2,e2,e3,q⟩:=h;exact⟨a,xs,e,s,l,v,r,e1,v2,r2,e2,e3,w _ _ q⟩
theorem A_{K:Z3}{i k own:Nat}{ag:List Nat}{g:TG}{te:TE}(gm:∀x σ H Q Q',(∀s h,Q s h->Q' s h)->g x σ H Q->g x σ H Q')(D:g9)(σ:L2.St)(H:Hp)(h:me (Di i own ag g te) (dX k) D σ H):me (h_ (jL K (dz i)) own ag g (fun _ H Q=>Q true H) te) (dX k) D σ H:=rM gm _ _ _ h
end FD
end
section
namespace FF
noncomputable def Nr(p:Pt):Prop:=(-100<=p.1/\p.1<=100)/\-100<=p.2/\p.2<=100
theorem b7:∀{cs:List Pt} {i:Nat},i<cs.length->at' cs i∈cs
 |c::r,0,_=>Za
 |c::r,i+1,h=>Zo _ (b7 (by simpa using h))
theorem kC(c:Int):∀k:Nat,0<=xAt c k/\xAt c k<=3*k
 |0=>⟨Int.le_refl 0,Int.le_refl 0⟩
 |k+1=>by
  have:=kC c k
  have:=dE c k (show (0:Int)<3 by decide)
  unfold xAt;lia
theorem ny{m:Nat}{x l:Nat->Int}(hm:m<=6)(hx:∀k,k<m->0<=x k/\x k<=3*k)(hl:∀k,-100<=l k/\l k<=100):∀p∈loL m x l,Nr p:=by
 intro p hp;unfold loL at hp;obtain⟨k,hk,rfl⟩:=Y9.mp hp;have hk:=Zy.mp hk
 have:=hx k hk
 exact⟨by simp only;lia,hl k⟩
theorem pL{L H:List Pt}{t:Int}(hL:∀p∈L,Nr p)(hH:∀p∈H,Nr p):∀p∈bC L H t,Nr p:=by
 intro p hp;unfold bC at hp;simp only at hp;rcases ZE.mp hp with h|h
 ·exact hL p h
 ·refine hH p ?_;rw[Wb]at h;have e1:∀{A:List Pt} {q},q∈A.dropLast->q∈A:=fun z=>List.dropLast_subset _ z;have e2:∀{q},q∈(if t%2=1 then H.eraseIdx 0 else H)->q∈H:=by
   intro q hq
   split at hq
   ·exact List.mem_of_mem_eraseIdx hq
   ·exact hq
  generalize (if t%2=1 then H.eraseIdx 0 else H)=T at *
  split at h
  ·exact e2 (e1 h)
  ·exact e2 h
theorem xa{c:Int}:∀p∈c6 c,Nr p:=by
 have h1:=Int.emod_nonneg c (show (3:Int)≠0 by decide)
 have h2:=Int.emod_lt_of_pos c (show (0:Int)<3 by decide)
 have h3:=Int.emod_nonneg (c/3) (show (3:Int)≠0 by decide)
 have h4:=Int.emod_lt_of_pos (c/3) (show (0:Int)<3 by decide)
 unfold c6;simp only;generalize c%3=a at *
 generalize c/3%3=b at *
 intro p hp;simp only[Wd,Yc,Zz,Zr,or_false]at hp;unfold Nr;rcases hp with rfl|rfl|rfl|rfl|rfl|rfl|rfl|rfl|rfl|rfl|rfl|rfl<;>simp only<;>lia
theorem r_{p q c u v b:Int}(hu:0<u)(hv:0<v)(e:u*p+v*q=(u+v)*c)(h1:-b<=p/\p<=b)(h2:-b<=q/\q<=b):-b<=c/\c<=b:=by
 have e2:(u+v)*c=u*c+v*c:=Int.add_mul _ _ _;constructor
 ·apply Z9;intro h;have a1:u*c<u*p:=Int.mul_lt_mul_of_pos_left (by lia) hu
  have a2:v*c<v*q:=Int.mul_lt_mul_of_pos_left (by lia) hv
  lia
 ·apply Z9;intro h;have a1:u*p<u*c:=Int.mul_lt_mul_of_pos_left (by lia) hu
  have a2:v*q<v*c:=Int.mul_lt_mul_of_pos_left (by lia) hv
  lia
theorem xO{p q c:Pt}(h:bu p q c)(hp:Nr p)(hq:Nr q):Nr c:=by
 obtain⟨u,v,hu,hv,e1,e2⟩:=h;exact⟨r_ hu hv e1 hp.1 hq.1,r_ hu hv e2 hp.2 hq.2⟩
theorem uv{cs:List Pt}{c:Int}(h:∀p∈cs,Nr p)(h1:1<=cs.length):∀p∈flat cs c,Nr p:=by
 intro p hp;unfold flat at hp;simp only at hp;have t1:=Int.emod_nonneg c (show (cs.length:Int)≠0 by lia)
 have t2:=Int.emod_lt_of_pos c (show (0:Int)<cs.length by lia)
 have ht:(c%(cs.length:Int)).toNat<cs.length:=by lia
 generalize (c%(cs.length:Int)).toNat=t at *
 split at hp
 ·exact h p hp
 ·rename_i g hg
  split at hp
  ·exact h p hp
  ·have hm:=iM (Xm hg);have k1:=Int.emod_nonneg (c/12) (show g-1≠0 by lia)
   have k2:=Int.emod_lt_of_pos (c/12) (show 0<g-1 by lia)
   have st:=gP hm.1 hm.2.1 hm.2.2 (k:=1+c/12%(g-1)) (by lia) (by lia)
   rcases ZE.mp hp with q|q
   ·rcases ZE.mp q with q|q
    ·exact h p (X0 q)
    ·rw[Zj]at q;rw[q];exact xO st (h _ (b7 (by split<;>lia))) (h _ (b7 ht))
   ·exact h p (Xl q)
theorem vj(ns:List Int)(f:Nat):∀p∈du ns f,Nr p:=by
 have hm:2<=b_ (cell ns f)/\b_ (cell ns f)<=6:=by unfold b_;lia
 have b1:∀k,-100<=dk (cell ns (f+1)) k/\dk (cell ns (f+1)) k<=4:=fun k=>by
  have:=dE (cell ns (f+1)) k (show (0:Int)<9 by decide)
  unfold dk;lia
 have b2:∀k,-100<=bL (cell ns (f+1)) (cell ns (f+2)) k/\bL (cell ns (f+1)) (cell ns (f+2)) k<=100:=fun k=>by
  have:=b1 k
  have:=dE (cell ns (f+2)) k (show (0:Int)<5 by decide)
  unfold bL;lia
 have g0:∀p∈bC (bR ns f) (bD ns f) (cell ns f/5%4),Nr p:=
  pL (ny hm.2 (fun k _=>kC _ k) fun k=>by have:=b1 k;lia) (ny hm.2 (fun k _=>kC _ k) b2)
 have G0:Good (bC (bR ns f) (bD ns f) (cell ns f/5%4)):=by
  refine lM hm.1 hm.2 (fun i j h _=>nM _ h) (fun i _=>?_)
  have:=dE (cell ns (f+2)) i (show (0:Int)<5 by decide)
  unfold bL;lia
 unfold du;simp only;generalize bC (bR ns f) (bD ns f) (cell ns f/5%4)=c0 at *
 generalize cell ns f/20=c;have g1:∀p∈dg c0 c (cell ns (f+1)),Nr p:=by unfold dg;split;exact xa;exact g0
 have G1:Good (dg c0 c (cell ns (f+1))):=by unfold dg;split;exact lF _;exact G0
 generalize dg c0 c (cell ns (f+1))=c1 at *
 have g2:∀p∈dN c1 c (cell ns (f+2)),Nr p:=by unfold dN;split;exact uv g1 (by have:=G1.fe.lo;lia);exact g1
 generalize dN c1 c (cell ns (f+2))=c2 at *
 have g3:∀p∈fK c2 c,Nr p:=by
  intro p hp;unfold fK at hp;rcases ZE.mp hp with q|q
  ·exact g2 p (Xl q)
  ·exact g2 p (X0 q)
 generalize fK c2 c=c3 at *
 have g4:∀p∈fv c3 c,Nr p:=by
  intro p hp;unfold fv at hp
  split at hp
  ·exact g3 p (Wb.mp hp)
  ·exact g3 p hp
 generalize fv c3 c=c4 at *
 intro p hp;unfold j8 at hp
 split at hp
 ·obtain⟨z,hz,rfl⟩:=Y9.mp hp;exact⟨(g4 z hz).2,(g4 z hz).1⟩
 ·exact g4 p hp
noncomputable def st(p q:Pt):Int:=(p.1-q.1)*(p.2+q.2)
noncomputable def pvN(n i:Nat):Nat:=if i=0 then n-1 else i-1
noncomputable def oO(cs:List Pt):Nat->Int
 |0=>0
 |k+1=>oO cs k+st (at' cs (pvN cs.length k)) (at' cs k)
theorem AS(p q:Pt):st p q=cr p q+p.1*p.2-q.1*q.2:=by unfold st cr;grind
noncomputable def jY(cs:List Pt):Nat->Int
 |0=>0
 |k+1=>jY cs k+cr (at' cs k) (at' cs (k+1))
theorem ul(cs:List Pt):∀k,oO cs (k+1)=cr (at' cs (cs.length-1)) (at' cs 0)+jY cs k+(at' cs (cs.length-1)).1*(at' cs (cs.length-1)).2-(at' cs k).1*(at' cs k).2
 |0=>by
  show 0+st (at' cs (pvN cs.length 0)) (at' cs 0)=_;rw[AS];show 0+(cr (at' cs (cs.length-1)) (at' cs 0)+_-_)=cr (at' cs (cs.length-1)) (at' cs 0)+0+_-_
  have:pvN cs.length 0=cs.length-1:=rfl
  rw[this];lia
 |k+1=>by
  show oO cs (k+1)+st (at' cs (pvN cs.length (k+1))) (at' cs (k+1))=_;rw[ul cs k,AS]
  have:pvN cs.length (k+1)=k:=rfl
  rw[this];show _=cr (at' cs (cs.length-1)) (at' cs 0)+(jY cs k+cr (at' cs k) (at' cs (k+1)))+_-_;lia
theorem o8(a:Pt)(r:List Pt):∀k,jY (a::r) (k+1)=cr a (at' r 0)+jY r k
 |0=>by show 0+cr a (at' r 0)=cr a (at' r 0)+0;lia
 |k+1=>by
  show jY (a::r) (k+1)+cr (at' r k) (at' r (k+1))=cr a (at' r 0)+(jY r k+cr (at' r k) (at' r (k+1)));rw[o8 a r k];lia
theorem uM:∀(r:List Pt) (p f:Pt),pa p r f=jY (p::r) r.length+cr (at' (p::r) r.length) f
 | [],p,f=>by show cr p f=0+cr p f;lia
 |x::r,p,f=>by
  show cr p x+pa x r f=jY (p::x::r) (r.length+1)+cr (at' (x::r) r.length) f;rw[uM r x f,o8];show _=cr p x+_+_;lia
theorem wP:∀{cs:List Pt},1<=cs.length->oO cs cs.length=area cs
 |c::r,_=>by
  have:=ul (c::r) r.length
  show oO (c::r) (r.length+1)=pa c r c;rw[this,uM];have e:(c::r).length-1=r.length:=rfl;rw[e];show cr (at' (c::r) r.length) c+_+_-_=_;lia
end FF
end
section
namespace FF
structure LF(cs:List Pt):Prop where
 lo:3<=cs.length
 hi:cs.length<=12
structure LG(cs:List Pt):Prop where
 fe:LF cs
theorem qj(ns:List Int)(f:Nat):LG (bC (bR ns f) (bD ns f) (cell ns f/5%4)):=by
 have hm:2<=b_ (cell ns f)/\b_ (cell ns f)<=6:=by unfold b_;omega
 have lL:(bR ns f).length=b_ (cell ns f):=ba;have lH:(bD ns f).length=b_ (cell ns f):=ba;generalize bR ns f=L at *
 generalize bD ns f=H at *
 generalize cell ns f/5%4=t;have key:3<=(bC L H t).length/\(bC L H t).length<=12:=by
  unfold bC;simp only[Z5,Ze];have e:(if t%2=1 then H.eraseIdx 0 else H).length+1 ≥ H.length/\(if t%2=1 then H.eraseIdx 0 else H).length<=H.length:=by
   split
   ·rw[YW,Wc];omega
   ·omega
  generalize (if t%2=1 then H.eraseIdx 0 else H)=T at *
  split
  ·rw[Yg];omega
  ·omega
 exact⟨⟨key.1,key.2⟩⟩
theorem yc{cs:List Pt}{c d:Int}(G:LG cs):LG (dg cs c d):=by
 unfold dg
 split
 ·exact⟨⟨by show 3<=12;decide,by show 12<=12;decide⟩⟩
 ·exact G
theorem yf{cs:List Pt}{c d:Int}(G:LG cs):LG (dN cs c d):=by
 unfold dN
 split
 ·unfold flat;simp only;have lo:=G.fe.lo;have hi:=G.fe.hi
  split
  ·exact G
  ·split
   ·exact G
   ·refine⟨⟨?_,?_⟩⟩<;>simp only[Z5,Zi,Zu,Zg,YL]<;>omega
 ·exact G
theorem LG.turn{cs:List Pt}{c:Int}(G:LG cs):LG (fK cs c):=by
 have lo:=G.fe.lo;have hi:=G.fe.hi;unfold fK;refine⟨⟨?_,?_⟩⟩<;>simp only[Z5,Zi,Zu]<;>omega
theorem yK{cs:List Pt}{c:Int}(G:LG cs):LG (fv cs c):=by
 unfold fv
 split
 ·exact⟨⟨by rw[Ze];exact G.fe.lo,by rw[Ze];exact G.fe.hi⟩⟩
 ·exact G
end FF
end
section
namespace FD
open PySem L2 FF
noncomputable abbrev jW:Stmt:=top 64
theorem ze{G:Prop}{K Pm:Addr->Hp->Prop}(main:(∀r H1,Pm r H1->K r H1)->G)(af:∀r H1,Pm r H1->K r H1):G:=main af
noncomputable def o_(K:Z3):Sp:=fun vs H Q _=>∃a ns f,vs=[.ref a,.int ((f:Nat):Int)]/\Scr K H a ns/\∀r rf H',au H H'->PLs H' r rf (du ns f)->Q (.ref r) H'
section
variable{P:Zv}{w:Zl}{K:Z3}{mg:Str->Option Value}{base:ZF}{f:Addr}{fd:Zf}
theorem AV:(["x","y"]:List Str).Nodup:=by decide +kernel
theorem dH:aD ["script","first","rows","corners","cell","turn_v"] ["script","first"] (aq jW):=.mk'
theorem tK(F:Fun K "_law_fence_by" "_law_fence_by" jW f fd)(cC:Cal P w K mg base 1 "_law_cell_at" ["script","k"] (nq K))(cR:Cal P w K mg base 2 "_law_rows_by" ["script","first"] (xt K))(cJ:Cal P w K mg base 1 "_law_joined" ["lows","highs","tips"] sh)
  (cS:Cal P w K mg base 1 "_law_spiral" ["cell"] qC)(cF:Cal P w K mg base 1 "_law_flat" ["corners","cell"] yn)(ml:mg "len" = none)(mls:mg "list" = none)(Gn:mg "reversed" = none):aI P w K mg base CX0 3 f fd ["script","first"] (o_ K):=by
 refine F.ok dH (by rintro _ _ _ _⟨a,ns,m,rfl,_⟩;rfl) fun E3 A outer s H vs Q E hr h=>?_
 obtain⟨a,ns,m,rfl,hS,q⟩:=h;refine⟨_,am (aE (i:=2) dH.nd (ay cR hr (pa2 (pv 0) (pv 1))))
  (am (aE (i:=3) dH.nd (ay cJ hr (pa3 (ak aH (pv 2) ad) (ak aH (pv 2) ad) (ak aH (pv 2) ad))))
  (am (aE (i:=4) dH.nd (ai gl (ay cC hr (pa2 (pv 0) (pv 1))) ad))
  (am (aZ (aQ be (ai dv (ai gl (pv 4) ad) ad) ad) (ap (aE (i:=3) dH.nd (ay cS hr (pa1 (ay cC hr (pa2 (pv 0) (ai a_ (pv 1) ad))))))) aL)
  (am (aZ (aQ be (ai dv (ai gl (pv 4) ad) ad) ad) (ap (aE (i:=3) dH.nd (ay cF hr (pa2 (pv 3) (ay cC hr (pa2 (pv 0) (ai a_ (pv 1) ad))))))) aL)
  (am (aE (i:=5) dH.nd (ai dv (pv 4) (aN aW rfl ml ZJ (pa1 (pv 3)))))
  (am (aE (i:=3) dH.nd (xo (pv 3) (pv 5) (pv 3) (pv 5)))
  (am (aZ (aQ be (ai dv (ai gl (pv 4) ad) ad) ad) (ap (aE (i:=3) dH.nd (fi (ic rfl rfl mls rfl Gn (pa1 (pv 3))) kN))) aL)
  (am (aZ (aQ be (ai dv (ai gl (pv 4) ad) ad) ad) (ap (BH (db (i:=3) (N':=["x","y"]) (own:=2) (ag:=[]) rfl (aO.of (sc:=aq jW) (N0:=["script","first","rows","corners","cell","turn_v"]) rfl rfl (by decide +kernel)) dH.nd rfl (ZQ rfl) (bp (pv 3))
   (fun C cl fp aa s₂ H₂=>gJ (n:=2) rfl (bw (aM (i:=0) AV rfl (ZQ rfl)) (bw (aM (i:=1) AV rfl (ZQ rfl)) e8))) (fun C cl fp aa s₂ H₂=>bQ) (fun C cl fp aa s₂ H₂=>dW (pa2 (pv 1) (pv 0)))) (A_ xk))) aL)
  (ap (aC (pv 3))))))))))),?_⟩
 have e1:∀j:Nat,((m:Nat):Int)+((j:Nat):Int)=((m+j:Nat):Int):=fun j=>by lia
 have hm:2<=b_ (cell ns m)/\b_ (cell ns m)<=6:=by unfold b_;lia
 have lL:(bR ns m).length=b_ (cell ns m):=ba;have lH:(bD ns m).length=b_ (cell ns m):=ba;unfold du at q;simp only at q;have G0:=qj ns m;refine⟨_,rfl,_,rfl,a,ns,m,rfl,hS,fun rw lo hi rl rh H1 s1 hrw hL hR=>⟨[_,_,_,_,_,_],rfl,?_⟩⟩;refine⟨_,rfl,rw,_,_,_,rfl,rfl,SqL.of hrw,rfl,_,rfl,rw,_,_,_,rfl,rfl,SqL.of hrw,rfl,_,rfl,rw,_,_,_,rfl,rfl,SqL.of hrw,rfl,lo,hi,_,rl,rh,_,_,rfl,hL,hR,by rw[lL];exact hm.1,by lia,by rw[lH];exact hm.1,by lia,fun r0 rf0 H2 s2 hP0=>⟨[_,_,_,_,_,_],rfl,?_⟩⟩
 have sA:=s1.trans s2;clear hL hR hrw s1 s2 lL lH hm;generalize bC (bR ns m) (bD ns m) (cell ns m/5%4)=c0 at *
 refine⟨_,rfl,_,rfl,a,ns,m,rfl,hS.mono sA,_,_,rfl,rfl,⟨by decide,by decide⟩,[_,_,_,_,_,_],rfl,?_⟩
 refine⟨_,rfl,_,_,rfl,rfl,⟨by decide,by decide⟩,_,_,rfl,rfl,(show (0:Int)<5 by decide),rfl,_,rfl,?_⟩
 rw[cX];apply ze (Pm:=fun r H3=>au H H3/\∃rf,PLs H3 r rf (dg c0 (cell ns m/20) (cell ns (m+1))))
 ·intro af;refine aU (fun c=>?_) (fun c=>?_)
  ·have c':cell ns m/20/48%5=1:=by simpa using c
   refine⟨_,rfl,_,rfl,_,_,rfl,rfl,a,ns,m+1,by rw[<-e1 1];rfl,hS.mono sA,_,rfl,fun r1 rf1 H3 s3 hP1=>?_⟩
   exact af r1 H3 ⟨sA.trans s3,rf1,by unfold dg;rw[if_pos c'];exact hP1⟩
  ·have c':¬cell ns m/20/48%5=1:=by simpa using c
   exact af r0 H2 ⟨sA,rf0,by unfold dg;rw[if_neg c'];exact hP0⟩
 rintro r1 H3 ⟨s3,rf1,hP1⟩;have G1:LG (dg c0 (cell ns m/20) (cell ns (m+1))):=yc G0;clear hP0 sA G0;generalize dg c0 (cell ns m/20) (cell ns (m+1))=c1 at *
 refine⟨[_,_,_,_,_,_],rfl,?_⟩;refine⟨_,rfl,_,_,rfl,rfl,⟨by decide,by decide⟩,_,_,rfl,rfl,(show (0:Int)<2 by decide),rfl,_,rfl,?_⟩
 rw[cX];apply ze (Pm:=fun r H3=>au H H3/\∃rf,PLs H3 r rf (dN c1 (cell ns m/20) (cell ns (m+2))))
 ·intro af;refine aU (fun c=>?_) (fun c=>?_)
  ·have c':cell ns m/20/240%2=1:=by simpa using c
   refine⟨_,rfl,_,rfl,_,rfl,_,_,rfl,rfl,a,ns,m+2,by rw[<-e1 2];rfl,hS.mono s3,r1,rf1,c1,_,rfl,hP1,by have:=G1.fe.lo;lia,by have:=G1.fe.hi;lia,fun r2 rf2 H4 s4 hP2=>?_⟩
   exact af r2 H4 ⟨s3.trans s4,rf2,by unfold dN;rw[if_pos c'];exact hP2⟩
  ·have c':¬cell ns m/20/240%2=1:=by simpa using c
   exact af r1 H3 ⟨s3,rf1,by unfold dN;rw[if_neg c'];exact hP1⟩
 rintro r2 H4 ⟨s4,rf2,hP2⟩;have G2:LG (dN c1 (cell ns m/20) (cell ns (m+2))):=yf G1;clear hP1 s3 G1;generalize dN c1 (cell ns m/20) (cell ns (m+2))=c2 at *
 have l3:=G2.fe.lo;have l12:=G2.fe.hi;have hn0:(0:Int)<(c2.length:Int):=by lia
 have hm1:=Int.emod_nonneg (cell ns m/20) (show (c2.length:Int)≠0 by lia)
 have hm2:=Int.emod_lt_of_pos (cell ns m/20) hn0;obtain⟨t,ht⟩:∃t:Nat,cell ns m/20%(c2.length:Int)=(t:Int):=⟨(cell ns m/20%(c2.length:Int)).toNat,by lia⟩
 have ht':(cell ns m/20%(c2.length:Int)).toNat=t:=by lia
 refine⟨[_,_,_,_,_,_],rfl,?_⟩;refine⟨_,rfl,_,rfl,r2,_,rfl,.inl (SqL.of hP2.1),_,_,rfl,rfl,by rw[av];exact hn0,[_,_,_,_,_,_],rfl,?_⟩
 rw[av,ht];refine⟨r2,rf2,c2,t,rfl,rfl,hP2,by lia,by lia,fun r3 rf3 H7 s7 q3=>⟨[_,_,_,_,_,_],rfl,?_⟩⟩
 have G3:LG (fK c2 (cell ns m/20)):=LG.turn G2;have e3:fK c2 (cell ns m/20)=c2.drop t++c2.take t:=by unfold fK;rw[ht']
 rw[<-e3]at q3;have sB:=s4.trans s7;clear hP2 s4 s7 G2 e3 ht ht' hm1 hm2 hn0 l3 l12;generalize fK c2 (cell ns m/20)=c3 at *
 refine⟨_,rfl,_,_,rfl,rfl,⟨by decide,by decide⟩,_,_,rfl,rfl,(show (0:Int)<2 by decide),rfl,_,rfl,?_⟩
 rw[cX];apply ze (Pm:=fun r H3=>au H H3/\∃rf,PLs H3 r rf (fv c3 (cell ns m/20)))
 ·intro af;refine aU (fun c=>?_) (fun c=>?_)
  ·have c':cell ns m/20/12%2=1:=by simpa using c
   exact⟨r3,rf3,c3,rfl,q3,fun r4 rf4 H8 s8 q4=>af r4 H8 ⟨sB.trans s8,rf4,by unfold fv;rw[if_pos c'];exact q4⟩⟩
  ·have c':¬cell ns m/20/12%2=1:=by simpa using c
   exact af r3 H7 ⟨sB,_,by unfold fv;rw[if_neg c'];exact q3⟩
 rintro r4 H8 ⟨s8,rf4,hP4⟩;have G4:LG (fv c3 (cell ns m/20)):=yK G3;clear q3 sB G3;generalize fv c3 (cell ns m/20)=c4 at *
 have k12:=G4.fe.hi;refine⟨[_,_,_,_,_,_],rfl,?_⟩;refine⟨_,rfl,_,_,rfl,rfl,⟨by decide,by decide⟩,_,_,rfl,rfl,(show (0:Int)<2 by decide),rfl,_,rfl,?_⟩
 rw[cX];refine aU (fun c=>?_) (fun c=>?_)
 ·have c':cell ns m/20/24%2=1:=by simpa using c
  refine⟨r4,rf4,c4,swp,rfl,hP4,by lia,(fun k hk H' s' Q' hq=>?_),fun D rg H' s' hP'=>⟨[_,_,_,_,_,_],rfl,_,rfl,q D rg H' (s8.trans s') (by unfold j8;rw[if_pos c'];exact hP')⟩⟩
  refine⟨_,_,rfl,SqT.of (s' _ _ (hP4.2 k hk)),rfl,_,_,rfl,_,_,rfl,rfl,iL (by decide) (by decide),?_⟩
  exact⟨_,rfl,_,rfl,_,_,rfl,fun t H4 s4 p4=>hq t H4 s4 p4⟩
 ·have c':¬cell ns m/20/24%2=1:=by simpa using c
  exact⟨[_,_,_,_,_,_],rfl,_,rfl,q r4 rf4 H8 s8 (by unfold j8;rw[if_neg c'];exact hP4)⟩
end
end FD
end
section
namespace FD
open PySem L2 FF
noncomputable abbrev vw:Stmt:=top 65
noncomputable def TnA(H:Hp)(t:Addr)(T:Tn):Prop:=H t=some (.tup [.int T.a,.int T.b,.int T.c,.int T.d,.int T.e,.int T.f])
theorem DV{p:Pt}(h:Nr p):Co p:=by
 obtain⟨h1,h2⟩:=h;unfold Co;lia
noncomputable def wM:Sp:=fun vs H Q _=>∃l rf cs,vs=[.ref l]/\PLs H l rf cs/\aJ cs/\1<=cs.length/\cs.length<=400/\Q (.int (area cs)) H
section
variable{P:Zv}{w:Zl}{K:Z3}{mg:Str->Option Value}{base:ZF}{f:Addr}{fd:Zf}
theorem jD:aD ["corners","total","k","one","other"] ["corners"] (aq vw):=.mk'
theorem A0{n:Nat}(F:Fun K "_law_sum" "_law_sum" vw f fd)(ml:mg "len" = none)(mr:mg "range" = none):aI P w K mg base CX0 (n+1) f fd ["corners"] wM:=by
 refine F.ok jD (by rintro _ _ _ _⟨l,rf,cs,rfl,_⟩;rfl) fun E3 A outer s H vs Q E hr h=>?_
 obtain⟨l,rf,cs,rfl,hp,co,n1,n4,q⟩:=h;refine⟨_,aB (aE (i:=1) jD.nd ad)
  (aB (gU Yb rfl (eC rfl mr (pa1 (aN aW rfl ml ZJ (pa1 (pv 0))))) (aM (i:=2) jD.nd rfl (ZQ rfl))
   (aB (aE (i:=3) jD.nd (ak aH (pv 0) (ai bn (pv 2) ad)))
   (aB (aE (i:=4) jD.nd (ak aH (pv 0) (pv 2)))
   (ap (aE (i:=1) jD.nd (ai bE (pv 1) (ai fH (ai bn (ak ax (pv 3) ad) (ak ax (pv 4) ad)) (ai bE (ak ax (pv 3) ad) (ak ax (pv 4) ad)))))))))
  (ap (aC (pv 1)))),?_⟩
 refine⟨_,rfl,l,_,rfl,.inl (SqL.of hp.1),_,rfl,?_,?_,?_⟩
 ·lia
 ·rw[av];lia
 rw[av];have e0:((cs.length:Nat):Int).toNat=cs.length:=by lia
 rw[e0];refine iR (fun i σ H'=>(∃x2 x3 x4,σ=[some (.ref l),some (.int (oO cs i)),x2,x3,x4])/\H'=H) ⟨⟨none,none,none,rfl⟩,rfl⟩ ?_ ?_
 ·rintro i σ H' hi ⟨⟨x2,x3,x4,rfl⟩,rfl⟩;have ei:(0:Int)+(i:Int)=(i:Int):=by lia
  rw[ei];have p1:=qt hi;have c1:=co _ p1;have c2:=co _ hi;refine⟨_,rfl,_,rfl,_,_,rfl,rfl,l,_,_,_,rfl,rfl,SqL.of hp.1,jG hi,_,rfl,_,rfl,l,_,_,_,rfl,rfl,SqL.of hp.1,ef hi,_,rfl,_,rfl,_,_,_,_,rfl,rfl,SqT.of (hp.2 _ p1),at0,_,rfl,_,_,_,_,rfl,rfl,SqT.of (hp.2 _ hi),at0,_,_,rfl,rfl,
   _,rfl,_,_,_,_,rfl,rfl,SqT.of (hp.2 _ p1),at1,_,rfl,_,_,_,_,rfl,rfl,SqT.of (hp.2 _ hi),at1,_,_,rfl,rfl,_,_,rfl,rfl,⟨g7 c1.1 c2.1,bv (by have:=c1.2;have:=c2.2;lia) (by have:=c1.2;have:=c2.2;lia)⟩,_,_,rfl,rfl,?_⟩
  exact⟨⟨_,_,_,rfl⟩,rfl⟩
 ·rintro σ H' ⟨⟨x2,x3,x4,rfl⟩,rfl⟩;rw[<-wP n1]at q;exact⟨_,rfl,q⟩
end
end FD
end
section
namespace FF
noncomputable def gd(p q:Pt):Int:=(Int.gcd (q.1-p.1) (q.2-p.2):Nat)
noncomputable def pg(p:Pt):List Pt->Pt->Int
 | [],f=>gd p f
 |q::r,f=>gd p q+pg q r f
noncomputable def mx:List Pt->Int
 | []=>0
 |c::r=>pg c r c
end FF
end
section
namespace FF
noncomputable def xr(f:Nat->Bool):Nat->Bool
 |0=>false
 |k+1=>xr f k ^^ f k
theorem sP{f:Nat->Bool}:∀n:Nat,(((Z4 n).filter f).length%2=1)↔xr f n=true
 |0=>by show (0%2=1)↔(false=true);decide
 |n+1=>by
  have ih:=sP (f:=f) n;rw[Ye,YX,Z5,YY,Wy];show _↔(xr f n ^^ f n)=true;cases h:f n with
  |true=>
   show (((Z4 n).filter f).length+1)%2=1↔_;cases h2:xr f n with
   |true=>rw[h2]at ih;simp only[iff_true]at ih;constructor<;>intro z<;>first|lia|exact absurd z (by decide)
   |false=>rw[h2]at ih;simp only[Zw,iff_false]at ih;constructor<;>intro z<;>first|lia|rfl
  |false=>
   show (((Z4 n).filter f).length+0)%2=1↔_;rw[Nat.add_zero,ih];cases xr f n<;>decide
end FF
end
section
namespace FF
noncomputable def rtB(a b p:Pt):Bool:=(decide (p.2<a.2) != decide (p.2<b.2))&&(decide (0<turn a b p)==decide (a.2<b.2))
end FF
end
section
namespace FF
noncomputable def pc(F:Pt->Pt->Int)(p:Pt):List Pt->Pt->Int
 | [],f=>F p f
 |q::r,f=>F p q+pc F q r f
noncomputable def cyc(F:Pt->Pt->Int):List Pt->Int
 | []=>0
 |c::r=>pc F c r c
theorem q_(F:Pt->Pt->Int):∀(r:List Pt) (p q:Pt) (r':List Pt) (f:Pt),pc F p (r++q::r') f=pc F p r q+pc F q r' f
 | [],p,q,r',f=>rfl
 |x::r,p,q,r',f=>by
  show F p x+pc F x (r++q::r') f=F p x+pc F x r q+pc F q r' f;rw[q_ F r x q r' f];lia
theorem uJ(F:Pt->Pt->Int):∀(A B:List Pt),cyc F (A++B)=cyc F (B++A)
 | [],B=>by rw[Yc,ZT]
 |a::A,[]=>by rw[Yc,ZT]
 |a::A,b::B=>by
  show pc F a (A++b::B) a=pc F b (B++a::A) b;rw[q_,q_];lia
theorem AW:∀(r:List Pt) (p f:Pt),pc cr p r f=pa p r f
 | [],_,_=>rfl
 |x::r,p,f=>by show cr p x+pc cr x r f=cr p x+pa x r f;rw[AW r x f]
theorem yH:∀A:List Pt,cyc cr A=area A
 | []=>rfl
 |c::r=>AW r c c
theorem AD:∀(r:List Pt) (p f:Pt),pc gd p r f=pg p r f
 | [],_,_=>rfl
 |x::r,p,f=>by show gd p x+pc gd x r f=gd p x+pg x r f;rw[AD r x f]
theorem wZ:∀A:List Pt,cyc gd A=mx A
 | []=>rfl
 |c::r=>AD r c c
theorem sQ(F:Pt->Pt->Int):∀(r:List Pt) (p f g:Pt),pc F p r f-F (eO p r) f=pc F p r g-F (eO p r) g
 | [],p,f,g=>by show F p f-F p f=F p g-F p g;lia
 |x::r,p,f,g=>by
  show F p x+pc F x r f-F (eO x r) f=F p x+pc F x r g-F (eO x r) g
  have:=sQ F r x f g;lia
theorem Ai(F:Pt->Pt->Int){cs:List Pt}{c:Pt}(h0:cs≠[]):cyc F (c::cs)=cyc F cs+F (at' cs (cs.length-1)) c+F c (at' cs 0)-F (at' cs (cs.length-1)) (at' cs 0):=by
 match cs,h0 with
 |p::r,_=>
  have e:at' (p::r) ((p::r).length-1)=eO p r:=by rw[<-lZ];rfl
  rw[e];show F c p+pc F p r c=pc F p r p+F (eO p r) c+F c p-F (eO p r) p
  have:=sQ F r p c p;lia
theorem zJ(F:Pt->Pt->Int){A B:List Pt}{c:Pt}(h0:A++B≠[]):cyc F (A++[c]++B)=cyc F (A++B)+F (at' (B++A) ((A++B).length-1)) c+F c (at' (B++A) 0)-F (at' (B++A) ((A++B).length-1)) (at' (B++A) 0):=by
 rw[Y2,uJ F A,uJ F A];have hl:(A++B).length=(B++A).length:=by rw[Z5,Z5];lia
 rw[hl];refine Ai F (cs:=B++A) ?_;intro e
 have:=Y_ Wv e
 rw[<-hl]at this;exact h0 (Yo this)
end FF
end
section
namespace FD
open PySem L2 FF
noncomputable abbrev sWP:Stmt:=top 13
noncomputable abbrev rJ:Stmt:=top 28
noncomputable abbrev lp:Stmt:=top 29
theorem xE(F:Pt->Pt->Int):∀(r:List Pt) (p f:Pt),fR ((Z4 (r.length+1)).map fun i=>F (at' (p::r) i) (if i=r.length then f else at' (p::r) (i+1)))=pc F p r f
 | [],p,f=>by
  show F p f+0=F p f;lia
 |x::r,p,f=>by
  have ih:=xE F r x f;rw[Zg,VA,Y5,YK];show F (at' (p::x::r) 0) (if 0=r.length+1 then f else at' (p::x::r) (0+1))+fR _=F p x+pc F x r f
  rw[if_neg (by lia),<-ih]
  congr 2;apply W7;intro i _;show F (at' (x::r) i) (if i+1=r.length+1 then f else at' (x::r) (i+1))=_
  by_cases c:i=r.length
  ·rw[if_pos (by lia),if_pos c]
  ·rw[if_neg (by lia),if_neg c]
theorem ug(F:Pt->Pt->Int){cs:List Pt}(h:1<=cs.length):fR ((Z4 cs.length).map fun i=>F (at' cs i) (at' cs (nx cs.length i)))=cyc F cs:=by
 match cs,h with
 |c::r,_=>
  have:=xE F r c c
  rw[show cyc F (c::r)=pc F c r c from rfl,<-this,Zg]
  congr 1;apply W7;intro i hi;have hi:=Zy.mp hi;unfold nx;by_cases e:i=r.length
  ·rw[if_pos (by lia),if_pos e];rfl
  ·rw[if_neg (by lia),if_neg e]
noncomputable def Ct:Sp:=fun vs H Q _=>∃a b pa pb,vs=[.ref a,.ref b]/\PtA H a pa/\PtA H b pb/\Q (.int (gd pa pb)) H
noncomputable def qw:Sp:=fun vs H Q _=>∃l rf cs,vs=[.ref l]/\PLs H l rf cs/\aJ cs/\aF cs/\∀H',au H H'->Q (.int (mx cs)) H'
noncomputable def inN(cs:List Pt):Int:=((if area cs<0 then-area cs else area cs)+2-mx cs)/2
noncomputable def qL:Sp:=fun vs H Q _=>∃l rf cs,vs=[.ref l]/\PLs H l rf cs/\aJ cs/\aF cs/\∀H',au H H'->Q (.int (inN cs)) H'
theorem A2(x y:Int):Int.gcd (if x<0 then -x else x) (if y<0 then -y else y)=Int.gcd x y:=by
 show Nat.gcd _ _=Nat.gcd _ _;have e1:(if x<0 then -x else x).natAbs=x.natAbs:=by split<;>lia
 have e2:(if y<0 then -y else y).natAbs=y.natAbs:=by split<;>lia
 rw[e1,e2]
theorem Ao{x y:Int}(hx:0<=x)(hy:0<y):Int.gcd y (x%y)=Int.gcd x y:=by
 obtain⟨a,rfl⟩:=Int.eq_ofNat_of_zero_le hx;obtain⟨b,rfl⟩:=Int.eq_ofNat_of_zero_le (Int.le_of_lt hy);show Nat.gcd b ((a:Int)%(b:Int)).natAbs=Nat.gcd a b;rw[<-Int.natCast_emod,Int.natAbs_natCast,Nat.gcd_comm b,Nat.gcd_comm a,<-Nat.gcd_rec]
section
variable{P:Zv}{w:Zl}{K:Z3}{mg:Str->Option Value}{base:ZF}{f:Addr}{fd:Zf}
theorem oI:aD ["start","end","one","other","rest"] ["start","end"] (aq sWP):=.mk'
theorem D8{n:Nat}(F:Fun K "whole_points" "whole_points" sWP f fd)(Ew:mg "abs" = none):aI P w K mg base CX0 (n+1) f fd ["start","end"] Ct:=by
 refine F.ok oI (by rintro _ _ _ _⟨_,_,_,_,rfl,_⟩;rfl) fun E3 A outer s H vs Q E hr h=>?_
 obtain⟨a,b,pa,pb,rfl,ha,hb,q⟩:=h;refine⟨_,aB (aE (i:=2) oI.nd (aN gM rfl Ew YV (pa1 (ai bn (ak ax (pv 1) ad) (ak ax (pv 0) ad)))))
  (aB (aE (i:=3) oI.nd (aN gM rfl Ew YV (pa1 (ai bn (ak ax (pv 1) ad) (ak ax (pv 0) ad)))))
  (aB (lS Yb (aQ fJ (pv 3) ad) (aB (aE (i:=4) oI.nd (ai dB (pv 2) (pv 3)))
   (aB (aE (i:=2) oI.nd (pv 3))
   (ap (aE (i:=3) oI.nd (pv 4))))))
  (ap (aC (pv 2))))),?_⟩
 refine⟨_,rfl,b,_,_,_,rfl,rfl,SqT.of hb,at0,_,rfl,a,_,_,_,rfl,rfl,SqT.of ha,at0,_,_,rfl,rfl,_,rfl,?_⟩;refine⟨_,rfl,b,_,_,_,rfl,rfl,SqT.of hb,at1,_,rfl,a,_,_,_,rfl,rfl,SqT.of ha,at1,_,_,rfl,rfl,_,rfl,?_⟩;refine Al (fun σ H'=>H'=H/\∃(x y:Int) (x4:Option V),σ=[some (.ref a),some (.ref b),some (.int x),some (.int y),x4]/\0<=x/\0<=y/\((Int.gcd x y:Nat):Int)=gd pa pb)
  (fun σ _=>match σ with| [_,_,_,some (.int y),_]=>y.toNat|_=>0) ⟨rfl,_,_,none,rfl,by split<;>lia,by split<;>lia,?_⟩ ?_ (fun σ H Q Q' hQ hc=>?_)
 ·rw[A2];rfl
 ·rintro σ H' ⟨rfl,x,y,x4,rfl,hx,hy,e⟩;refine⟨_,rfl,_,_,rfl,rfl,_,rfl,?_⟩;refine aU (fun c=>?_) (fun c=>?_)
  ·have c':=Zx c;have hy0:0<y:=c';refine⟨_,rfl,_,rfl,_,_,rfl,rfl,hy0,?_⟩;refine⟨_,rfl,?_⟩;refine⟨_,rfl,?_⟩;have m0:=Int.emod_nonneg x (show y≠0 by lia)
   have m1:=Int.emod_lt_of_pos x hy0;refine⟨⟨rfl,y,x%y,_,rfl,hy,m0,by rw[Ao hx hy0];exact e⟩,?_⟩
   show (x%y).toNat<y.toNat;lia
  ·have c':¬_:=fun z=>c (Zt z);have y0:y=0:=by lia
   subst y0;have e0:gd pa pb=x:=by
    rw[<-e,Int.gcd_zero_right];lia
   rw[e0]at q;exact⟨_,rfl,q⟩
 ·obtain⟨x,e,i,j,e1,e2,k,e3,h⟩:=hc;exact⟨x,e,i,j,e1,e2,k,e3,hQ _ _ h⟩
theorem AE:aD ["corners"] ["corners"] (aq rJ):=.mk'
theorem xH(F:Fun K "rim" "rim" rJ f fd)(B':Cal P w K mg base 6 "refuse_no_fence" ["corners"] eQ)(E7:Cal P w K mg base 1 "sides_of" ["corners"] gK)(E_:Cal P w K mg base 1 "whole_points" ["start","end"] Ct)(F4:mg "sum" = none):aI P w K mg base CX0 7 f fd ["corners"] qw:=by
 refine F.ok AE (by rintro _ _ _ _⟨_,_,_,rfl,_⟩;rfl) fun E3 A outer s H vs Q E hr h=>?_
 obtain⟨l,rf,cs,rfl,hp,co,fe,q⟩:=h;refine⟨_,aB (aV (ay B' hr (pa1 (pv 0))))
  (ap (aC (aN (ka rfl) rfl F4 VP (pa1 (bA (N':=["start","end"]) (own:=2) (ag:=[]) rfl (aO.of (sc:=aq rJ) (N0:=["corners"]) rfl rfl (by decide +kernel)) (bp (ay E7 hr (pa1 (pv 0)))) (fun _ _ _ _ _ _=>(gJ (n:=2) rfl (bw (aM (i:=0) qr rfl (ZQ rfl)) (bw (aM (i:=1) qr rfl (ZQ rfl)) e8)))) (fun C cl fp aa s₂ H₂=>bQ) (fun _ _ _ _ _ _=>(ay E_ hr (pa2 (pv 0) (pv 1))))))))),?_⟩
 have l3:=fe.lo;have l12:=fe.hi;refine⟨_,rfl,l,rf,cs,rfl,hp,co,fe,fun H0 s0=>?_⟩;refine⟨_,rfl,l,rf,cs,rfl,hp.mono s0,by lia,by lia,fun r ts H1 s1 EN=>?_⟩
 refine⟨r,rfl,⟨_,SqL.of EN.1⟩,?_⟩;have pP:∀k,k<cs.length->PtA H1 (rf k) (at' cs k):=fun k hk=>s1 _ _ (s0 _ _ (hp.2 k hk));refine⟨cs.length,fun i ys H'=>H'=H1/\ys=(Z4 i).map fun i=>V.int (gd (at' cs i) (at' cs (nx cs.length i))),aS (by lia),⟨rfl,rfl⟩,fun ys H' hW=>⟨⟨aw cs.length ts,by rw[hW.1];exact SqL.of EN.1,by rw[av];exact Nat.le_refl _⟩,fun D hD=>?_⟩,
  fun i ys H' hi hW=>⟨⟨aw cs.length ts,_,by rw[hW.1];exact SqL.of EN.1,aY hi⟩,fun x H2 hy=>?_⟩⟩
 ·obtain⟨rfl,rfl⟩:=hW;refine⟨D,(Z4 cs.length).map fun i=>gd (at' cs i) (at' cs (nx cs.length i)),rfl,?_,?_⟩
  ·rw[YK];exact SqL.of aj
  ·rw[ug gd (by lia),wZ]
   exact q _ ((s0.trans s1).trans (ao hD _))
 ·obtain⟨rfl,rfl⟩:=hW;obtain⟨rfl,hy⟩:=hy;obtain⟨_,rfl⟩:=bN (hy _ (SqL.of EN.1));have t1:=EN.2 i hi;refine⟨_,_,rfl,SqT.of t1,rfl,_,_,rfl,_,_,rfl,rfl,iL (by decide) (by decide),?_⟩
  refine c9 ?_;refine⟨_,rfl,_,rfl,_,_,_,_,rfl,pP _ hi,pP _ (aK hi),rfl,?_⟩;rw[Ye,ZU];rfl
theorem sM:aD ["corners"] ["corners"] (aq lp):=.mk'
theorem pX(F:Fun K "inside" "inside" lp f fd)(E1:Cal P w K mg base 7 "double_area" ["corners"] kW)(ED:Cal P w K mg base 7 "rim" ["corners"] qw):aI P w K mg base CX0 8 f fd ["corners"] qL:=by
 refine F.ok sM (by rintro _ _ _ _⟨_,_,_,rfl,_⟩;rfl) fun E3 A outer s H vs Q E hr h=>?_
 obtain⟨l,rf,cs,rfl,hp,co,fe,q⟩:=h;refine⟨_,ap (aC (ai gu (ai bn (ai bE (ay E1 hr (pa1 (pv 0))) ad) (ay ED hr (pa1 (pv 0)))) ad)),?_⟩
 refine⟨_,rfl,l,rf,cs,rfl,hp,co,fe,fun H1 s1=>⟨_,_,rfl,rfl,?_⟩⟩;refine⟨_,rfl,l,rf,cs,rfl,hp.mono s1,co,fe,fun H2 s2=>⟨_,_,rfl,rfl,_,_,rfl,rfl,⟨by decide,by decide⟩,?_⟩⟩
 exact q H2 (s1.trans s2)
end
end FD
end
section
namespace FF
theorem km(a b p:Pt):turn b a p=- turn a b p:=by unfold turn;grind
end FF
end
section
namespace FF
variable{c d:Col}{x y:Int}
end FF
end
section
namespace FF
variable{c d:Col}{x y:Int}
end FF
end
section
namespace FF
variable{c d:Col}
end FF
end
section
namespace FF
theorem Bc(p:Pt):swp (swp p)=p:=rfl
end FF
end
section
namespace FF
end FF
end
section
namespace FF
end FF
end
section
namespace FF
end FF
end
section
namespace FF
end FF
end
section
namespace FF
noncomputable def ip(a b:Pt)(y:Int):Int:=a.1*(b.2-a.2)+(b.1-a.1)*(y-a.2)
noncomputable def e_(a b:Pt)(y:Int):Int:=(ip a b y).fdiv (b.2-a.2)-(-(ip a b y)).fdiv (b.2-a.2)
theorem nR(a b:Pt)(x y:Int):turn a b (x,y)=ip a b y-(b.2-a.2)*x:=by unfold turn ip;grind
theorem ro{t r x:Int}(hr:0<r):(2*x<t/r-(-t)/r↔0<t-r*x)/\(t/r-(-t)/r<2*x↔t-r*x<0):=by
 have e1:=Int.mul_ediv_add_emod t r;have m0:=Int.emod_nonneg t (show r≠0 by lia)
 have m1:=Int.emod_lt_of_pos t hr;have e2:=Int.mul_ediv_add_emod (-t) r;have n0:=Int.emod_nonneg (-t) (show r≠0 by lia)
 have n1:=Int.emod_lt_of_pos (-t) hr;generalize t/r=q at *
 generalize (-t)/r=p at *
 generalize t%r=m at *
 generalize (-t)%r=n at *
 have e3:r*(q+p)=-(m+n):=by rw[Int.mul_add];lia
 have hqp:q+p=0\/q+p=-1:=by
  have k1:q+p<1:=by
   apply Z9;intro c
   have:r*1<=r*(q+p):=Int.mul_le_mul_of_nonneg_left (by lia) (by lia)
   lia
  have k2:-2<q+p:=by
   apply Z9;intro c
   have:r*(q+p)<=r*(-2):=Int.mul_le_mul_of_nonneg_left (by lia) (by lia)
   lia
  lia
 have e4:t-r*x=r*(q-x)+m:=by rw[Int.mul_sub];lia
 rw[e4];have up:x<q->r<=r*(q-x):=fun h=>by
  have:r*1<=r*(q-x):=Int.mul_le_mul_of_nonneg_left (by lia) (by lia)
  lia
 have dn:q<x->r*(q-x)<=-r:=fun h=>by
  have:r*(q-x)<=r*(-1):=Int.mul_le_mul_of_nonneg_left (by lia) (by lia)
  lia
 rcases Int.lt_trichotomy x q with c|c|c
 ·have:=up c
  rcases hqp with h|h<;>constructor<;>constructor<;>intro _<;>lia
 ·subst c;have z:r*(x-x)=0:=by rw[Int.sub_self,Int.mul_zero]
  rw[z];rcases hqp with h|h
  ·rw[h,Int.mul_zero]at e3;constructor<;>constructor<;>intro _<;>lia
  ·rw[h]at e3;constructor<;>constructor<;>intro _<;>lia
 ·have:=dn c
  rcases hqp with h|h
  ·rw[h,Int.mul_zero]at e3;constructor<;>constructor<;>intro _<;>lia
  ·constructor<;>constructor<;>intro _<;>lia
theorem kF{r z:Int}(hr:0<r):0<r*z↔0<z:=by
 constructor
 ·intro h;apply Z9;intro c
  have:=Int.mul_nonneg (show 0<=r by lia) (show 0<=-z by lia)
  rw[Int.mul_neg]at this;lia
 ·exact Int.mul_pos hr
theorem sC{a b:Pt}{x y:Int}(h:a.2≠b.2):(2*x<e_ a b y↔0<(b.2-a.2)*turn a b (x,y))/\(e_ a b y<2*x↔(b.2-a.2)*turn a b (x,y)<0):=by
 rw[nR];unfold e_;generalize ip a b y=t;generalize hr:b.2-a.2=r;have r0:r≠0:=by lia
 rcases Int.lt_or_gt_of_ne r0 with c|c
 ·have f1:t.fdiv r=(-t)/(-r):=by rw[<-Int.neg_fdiv_neg,Int.fdiv_eq_ediv_of_nonneg _ (by lia)]
  have f2:(-t).fdiv r=t/(-r):=by rw[<-Int.neg_fdiv_neg,Int.neg_neg,Int.fdiv_eq_ediv_of_nonneg _ (by lia)]
  rw[f1,f2];have k:=ro (t:=-t) (r:=-r) (x:=x) (by lia)
  rw[Int.neg_neg]at k;rw[k.1,k.2];have e:-t - -r*x=-(t-r*x):=by rw[Int.neg_mul];lia
  rw[e];have e2:r*(t-r*x)=(-r)*-(t-r*x):=by rw[Int.neg_mul_neg]
  rw[e2];constructor
  ·exact (kF (by lia)).symm
  ·constructor
   ·intro h;exact Int.mul_neg_of_pos_of_neg (by lia) h
   ·intro h;apply Z9;intro c2
    have:=Int.mul_nonneg (show 0<=-r by lia) (show 0<=-(t-r*x) by lia)
    lia
 ·rw[Int.fdiv_eq_ediv_of_nonneg _ (by lia),Int.fdiv_eq_ediv_of_nonneg _ (by lia)]
  have k:=ro (t:=t) (r:=r) (x:=x) c;rw[k.1,k.2];constructor
  ·exact (kF c).symm
  ·constructor
   ·intro h;exact Int.mul_neg_of_pos_of_neg c h
   ·intro h;apply Z9;intro c2
    have:=Int.mul_nonneg (show 0<=r by lia) (show 0<=t-r*x by lia)
    lia
theorem ui{a n b:Int}:eG a n b=true↔(a<=n/\n<=b)\/(b<=n/\n<=a):=by
 unfold eG;simp only[Xp,decide_eq_true_eq]
noncomputable def sA(cs:List Pt)(k:Nat):Pt:=at' cs (pvN cs.length k)
noncomputable def sB(cs:List Pt)(k:Nat):Pt:=at' cs k
noncomputable def zi(cs:List Pt)(y:Int)(k:Nat):Prop:=(sA cs k).2≠(sB cs k).2/\eG (sA cs k).2 y (sB cs k).2=true
noncomputable def mX(cs:List Pt)(y:Int)(k:Nat):Int:=e_ (sA cs k) (sB cs k) y
theorem bJ{n k:Nat}(h:k<n):pvN n k<n:=by unfold pvN;split<;>lia
theorem jv{n k:Nat}(h:k<n):nx n (pvN n k)=k:=by unfold nx pvN;(repeat' split)<;>lia
theorem kf{n k:Nat}(h:k<n):pvN n (nx n k)=k:=by unfold nx pvN;(repeat' split)<;>lia
end FF
end
section
namespace FF
end FF
end
section
namespace FF
noncomputable def cS(s:Int):Int:=(s-1)/2
noncomputable def dS(s:Int):Int:=s/2
end FF
end
section
namespace L2
open PySem PySem.Spec PyProof.Rows
section
variable{X:Cx}
open Classical in
noncomputable def ptE(H:Hp)(p:Int×Int):Value->Bool
 | .ref b=>decide (H b=some (.tup [.int p.1,.int p.2]))
 |_=>false
noncomputable def CN(K:Z3):R2:=fun x y H Q=>∃(a b:Addr) (p r:Int×Int),x=.ref a/\y=.ref b/\H a=some (.tup [.int p.1,.int p.2])/\H b=some (.tup [.int r.1,.int r.2])/\Q (.bl (!decide (p=r))) H
theorem DJ(hu:X.A.units+5<cLine):OpR X (compareOp .NotEq) (CN X.K):=by
 intro aa s σ H x y v u Q I rx ry h;obtain⟨a,b,p,r,rfl,rfl,h1,h2,q⟩:=h;cases rx;cases ry;obtain⟨i1,r1,p1,_⟩:=I.tuple (SqT.of (K:=X.K) h1);obtain⟨i2,r2,p2,_⟩:=I.tuple (SqT.of (K:=X.K) h2);cases r1 with
 |cons r1 t1=>
  cases t1 with
  |cons r1' t1=>
   cases t1;cases r2 with
   |cons r2 t2=>
    cases t2 with
    |cons r2' t2=>
     cases t2;obtain⟨k1,rfl⟩:=r1;obtain⟨k1',rfl⟩:=r1';obtain⟨k2,rfl⟩:=r2;obtain⟨k2',rfl⟩:=r2';refine SD (A:=X.A) (s:=s) (e:=fun j=>if j=0 then p.1==r.1 else p.2==r.2) (show s.heap.IsTuple a _ from p1) (show s.heap.IsTuple b _ from p2) (by lia) (fun j j1 j2=>?_) _ _ _ _ ⟨.bl (!decide (p=r)),H,I,?_,q⟩
     ·match j,j1 with
      |0,_=>exact XB p.1 k1 r.1 k2
      |1,_=>exact XB p.2 k1' r.2 k2'
     ·have e:((Z4 2).all (fun j=>if j=0 then p.1==r.1 else p.2==r.2)&&true)=decide (p=r):=by
       rw[Wz];show ((p.1==r.1)&&((p.2==r.2)&&true))=_;rw[Wz,ZS];simp only[ZA,beq_iff_eq,decide_eq_true_eq];exact⟨fun e=>YT e.1 e.2,fun e=>by rw[e];exact⟨rfl,rfl⟩⟩
      show Value.bool (!((Z4 2).all (fun j=>if j=0 then p.1==r.1 else p.2==r.2)&&true))=Value.bool (!decide (p=r))
      rw[e]
end
end L2
end
section
namespace L2
open PySem PySem.Spec PyProof.Rows
end L2
namespace L2
open PySem PySem.Spec PyProof.Rows
section
variable(P:Zv)(w:Zl)
end
section
variable{P:Zv}{w:Zl}{H H':Hp}{h h':ZF}{a:Addr}{o:HO}
end
section
variable{P:Zv}{w:Zl}{H:Hp}{h h':ZF}{x e:Addr}{o':HO}
end
section
variable{fs G_ ex FP:List Addr}{H H1 H2:Hp}{h h1 h2 h':ZF}{a x e:Addr}{o:HO}
end
end L2
namespace L2
open PySem PySem.Spec PyProof.Rows
section
variable{X:Cx}{aa:List (Addr×Obj)}{σ:List (Option V)}{H H':Hp}{s:Shared}{h':ZF}
end
end L2
namespace L2
open PySem PySem.Spec PyProof.Rows
section
variable{X:Cx}
variable{a b:ZN}{ta tb:TE}{pos:Pos}
variable{tA FQ:TT}{af:List ZN}
end
end L2
namespace L2
open PySem PySem.Spec PyProof.Rows
section
variable{X:Cx}{aa:List (Addr×Obj)}{σ:St}{H:Hp}{s:Shared}{a:Addr}{xs ys:List V}
end
section
variable{X:Cx}{aa:List (Addr×Obj)}{σ:St}{H:Hp}{s:Shared}{E:Value->Shared->Prop}
end
section
variable{X:Cx}{st:Stmt}{af:List Stmt}{t u:TS}{e:ZN}{te:TE}{pos:Pos}
end
section
variable{X:Cx}{pos:Pos}
end
section
variable{X:Cx}{pos:Pos}
end
end L2
namespace L2
open PySem PySem.Spec PyProof.Rows
section
variable{X:Cx}{tg:ZN}
end
end L2
namespace L2
open PySem PySem.Spec PyProof.Rows
section
variable{X:Cx}{a b c:ZN}{ta tb tc:TE}{pos:Pos}
end
section
variable{X:Cx}{a b c:ZN}{ta tb tc:TE}{pos:Pos}
end
end L2
namespace L2
open PySem PySem.Spec PyProof.Rows
section
variable{prog:Zv}{w:Zl}{A:ZK}{E:Value->Shared->Prop}{s:Shared}{K:Z3}{x dx C f:Addr}{mA:Str->Option Value}{name:Str}{v:Value}
end
section
variable{P:Zv}{w:Zl}{H H':Hp}{h h':ZF}{a C dx:Addr}{fs G_:List (Str×V)}
end
section
variable{X:Cx}{aa:List (Addr×Obj)}{σ:St}{H:Hp}{s:Shared}{a C dx:Addr}{fs:List (Str×V)}{f:Str}{v:V}{A:ZK}{E:Value->Shared->Prop}
end
section
variable{X:Cx}{o e value:ZN}{f:Str}{pos pos' Fb:Pos}{ta tv:TE}
end
section
variable{X:Cx}{aa:List (Addr×Obj)}{σ:St}{H:Hp}{s:Shared}{A:ZK}{E:Value->Shared->Prop}{Q:Value->Shared->Prop}{c:Value}{b:Bool}
end
end L2
namespace L2
open PySem PySem.Spec PyProof.Rows
section
variable{X:Cx}{e:ZN}{es:List ZN}{te:TE}{t:TA}{pos:Pos}
end
section
variable{X:Cx}{aa:List (Addr×Obj)}{σ:St}{H:Hp}{s s':Shared}
end
section
variable{X:Cx}{CX:CXT}{k:Nat}{f C:Addr}{fd:Zf}{ps:List Str}{sp:Sp}{F_:List V}{ds:List Value}{E:XK}{x m:Str}{p pos apos:Pos}{e o:ZN}{es:List ZN}{ta:TE}{t:TA}
end
section
variable{X:Cx}{CX:CXT}{k:Nat}{f C:Addr}{fd:Zf}{ps ks:List Str}{sp:Sp}{E:XK}{x m:Str}{p pos apos kpos:Pos}{e o:ZN}{es:List ZN}{kws:List S0}{te ta:TE}{t tk:TA}{nm:Option Str}
variable{g:List Value->List Value->List Value}{gV:List V->List V->List V}
end
end L2
namespace L2
open PySem PySem.Spec PyProof.Rows
section
variable{X:Cx}{x:Str}{p pos:Pos}{e:ZN}{es:List ZN}{t:TA}{id T:String}{r:List V->Hp->VK->Prop}
end
end L2
namespace L2
open PySem PySem.Spec PyProof.Rows
section
variable{κ:Type}[DecidableEq κ]
noncomputable def hG(D':List (κ×V))(k:κ):Option V:=(D'.find? fun kv=>decide (kv.1=k)).map (·.2)
noncomputable def fS(D':List (κ×V))(k:κ)(v:V):List (κ×V):=
 if (D'.any fun kv=>decide (kv.1=k))=true then D'.map (fun kv=>if kv.1=k then (kv.1,v) else kv) else D'++[(k,v)]
theorem lY{p:κ×V}{r:List (κ×V)}{k:κ}(e:p.1=k):hG (p::r) k=some p.2:=by simp[hG,X6,e]
theorem l_{p:κ×V}{r:List (κ×V)}{k:κ}(e:¬p.1=k):hG (p::r) k=hG r k:=by simp[hG,X6,e]
theorem qG(k:κ):∀D':List (κ×V),(D'.any fun kv=>decide (kv.1=k))=(hG D' k).isSome
 | []=>rfl
 |p::r=>by
  rw[Vu];by_cases e:p.1=k
  ·simp only[lY e,Zt e,Bool.true_or,Up]
  ·rw[l_ e,YJ e,Bool.false_or];exact qG k r
theorem jc(D':List (κ×V))(k:κ)(v:V):(fS D' k v).length<=D'.length+1:=by
 unfold fS
 split
 ·rw[Z6];lia
 ·rw[Z5,Zg,YL];lia
theorem jd.isSome_eq{o:Option V}{u:Option Value}(r:jd o u):o.isSome=u.isSome:=by
 cases o with
 |none=>cases u with
  |none=>rfl
  |some _=>exact (show False from r).elim
 |some _=>cases u with
  |none=>exact (show False from r).elim
  |some _=>rfl
theorem KV.val{D':List (κ×V)}{vs:List (κ×Value)}(r:KV D' vs)(k:κ):jd (hG D' k) (valueAt vs k):=by
 unfold KV at r
 induction r with
 |nil=>exact V3
 | @cons p q ps qs h t ih=>
  obtain⟨h1,h2⟩:=h;by_cases e:p.1=k
  ·have e':q.1=k:=h1.symm.trans e;have b:valueAt (q::qs) k=some q.2:=by simp[valueAt,X6,e']
   rw[lY e,b];exact h2
  ·have e':¬q.1=k:=fun z=>e (h1.trans z);have b:valueAt (q::qs) k=valueAt qs k:=by simp[valueAt,X6,e']
   rw[l_ e,b];exact ih
theorem KV.any{D':List (κ×V)}{vs:List (κ×Value)}(r:KV D' vs)(k:κ):(D'.any fun kv=>decide (kv.1=k))=vs.any fun kv=>decide (kv.1=k):=by
 unfold KV at r
 induction r with
 |nil=>rfl
 |cons h t ih=>rw[Vu,Vu,ih,h.1]
theorem KV.repl{D':List (κ×V)}{vs:List (κ×Value)}(r:KV D' vs)(k:κ){y:V}{u:Value}(ry:RelV y u):
  KV (D'.map fun kv=>if kv.1=k then (kv.1,y) else kv) (vs.map fun kv=>if kv.1=k then (kv.1,u) else kv):=by
 unfold KV at r ⊢
 induction r with
 |nil=>exact .nil
 | @cons p q ps qs h t ih=>
  rw[Y5,Y5];refine .cons ?_ ih;obtain⟨h1,h2⟩:=h;by_cases e:p.1=k
  ·rw[if_pos e,if_pos (h1.symm.trans e)];exact⟨h1,ry⟩
  ·rw[if_neg e,if_neg (fun z=>e (h1.trans z))];exact⟨h1,h2⟩
theorem KV.put{D':List (κ×V)}{vs:List (κ×Value)}(r:KV D' vs)(k:κ){y:V}{u:Value}(ry:RelV y u):KV (fS D' k y) (stored vs k u):=by
 unfold fS stored;rw[r.any k];by_cases e:(vs.any fun kv=>decide (kv.1=k))=true
 ·rw[if_pos e,if_pos e];exact r.repl k ry
 ·rw[if_neg e,if_neg e];exact Paired.snoc r ⟨rfl,ry⟩
theorem KV.length{D':List (κ×V)}{vs:List (κ×Value)}(r:KV D' vs):D'.length=vs.length:=Paired.length r
end
theorem qz{P:Zv}{w:Zl}{k:Key}{u:Value}(r:RelV (kV k) u):(c_ P w).is k u=true:=by
 cases k with
 |inl i=>obtain⟨t,e⟩:=(show ∃t,u=Value.int i t from r);subst e;exact tF P w i t
 |inr x=>obtain⟨t,e⟩:=(show ∃t,u=Value.str x t from r);subst e;exact tP P w x t
theorem i7{P:Zv}{w:Zl}:∀{ks:List Key} {us:List Value},aR (ks.map kV) us->ItemsAre (c_ P w) ks us
 | [],_,r=>by rw[Wn]at r;cases r;exact .nil
 |k::ks,_,r=>by
  rw[Y5]at r;cases r with
  |cons h t=>exact .cons (qz h) (i7 t)
noncomputable abbrev KT(H:Hp):List (List Key×V)->List (List Key×Addr×Value)->Prop:=Paired fun p q=>p.1=q.1/\H q.2.1=some (.tup (p.1.map kV))/\RelV p.2 q.2.2
theorem KT.val{H:Hp}{D':List (List Key×V)}{xs:List (List Key×Addr×Value)}(r:KT H D' xs)(k:List Key):jd (hG D' k) ((atKey xs k).map (·.2)):=by
 induction r with
 |nil=>exact V3
 | @cons p q ps qs h t ih=>
  obtain⟨h1,_,h2⟩:=h;by_cases e:p.1=k
  ·have e':q.1=k:=h1.symm.trans e;have b:atKey (q::qs) k=some q.2:=by simp[atKey,X6,e']
   rw[lY e,b];exact h2
  ·have e':¬q.1=k:=fun z=>e (h1.trans z);have b:atKey (q::qs) k=atKey qs k:=by simp[atKey,X6,e']
   rw[l_ e,b];exact ih
theorem KT.repl{H:Hp}{D':List (List Key×V)}{xs:List (List Key×Addr×Value)}(r:KT H D' xs)(k:List Key){y:V}{u:Value}(ry:RelV y u):
  KT H (D'.map fun kv=>if kv.1=k then (kv.1,y) else kv) (xs.map (putAt k u)):=by
 induction r with
 |nil=>exact .nil
 | @cons p q ps qs h t ih=>
  rw[Y5,Y5];refine .cons ?_ ih;obtain⟨h1,h2,h3⟩:=h;unfold putAt;by_cases e:p.1=k
  ·rw[if_pos e,if_pos (h1.symm.trans e)];exact⟨h1,h2,ry⟩
  ·rw[if_neg e,if_neg (fun z=>e (h1.trans z))];exact⟨h1,h2,h3⟩
theorem KT.put{H:Hp}{D':List (List Key×V)}{xs:List (List Key×Addr×Value)}(r:KT H D' xs)(k:List Key){b:Addr}{y:V}{u:Value}(hb:H b=some (.tup (k.map kV)))(ry:RelV y u):
  KT H (fS D' k y) (storedH xs k b u):=by
 have e:(D'.any fun kv=>decide (kv.1=k))=(atKey xs k).isSome:=by
  rw[qG,(r.val k).isSome_eq,Option.isSome_map]
 unfold fS storedH;rw[e];by_cases q:(atKey xs k).isSome=true
 ·rw[if_pos q,if_pos q];exact r.repl k ry
 ·rw[if_neg q,if_neg q];exact Paired.snoc r ⟨rfl,hb,ry⟩
theorem KT.keeps{H H':Hp}{D':List (List Key×V)}{xs:List (List Key×Addr×Value)}(r:KT H D' xs)(ht:∀b ys,H b=some (.tup ys)->H' b=some (.tup ys)):KT H' D' xs:=
 Paired.mapP r fun _ _ z=>⟨z.1,ht _ _ z.2.1,z.2.2⟩
section
variable{P:Zv}{w:Zl}{H:Hp}{h:ZF}{a:Addr}
theorem AJ{u:HO}(ok:HOk P w H h)(e:Rd H a u):bF P w H h a u:=e.ok ok
theorem v9{D':List (Key×V)}(ok:HOk P w H h)(e:Rd H a (.dK D')):D'.length<=sizeLine/\(a==sysModules)=false/\∃vs,KV D' vs/\h.DictOf (c_ P w) a vs:=
 show bF P w H h a (.dK D') from AJ ok e
theorem AQ{D':List (Key×V)}(ok:HOk P w H h)(e:H a=some (.dK D')):D'.length<=sizeLine/\(a==sysModules)=false/\∃vs,KV D' vs/\h.DictOf (c_ P w) a vs:=v9 ok (.inl e)
theorem rT{ks:List Key}(ok:HOk P w H h)(e:H a=some (.tup (ks.map kV))):(U6 (c_ P w)).is h ks a:=by
 obtain⟨_,C',r,o,h1,h2,n,h3⟩:=(show bF P w H h a (.tup (ks.map kV)) from ok a _ e)
 exact⟨o,C'.toArray,n,h1,h2,h3,by simpa using i7 r⟩
theorem vb{D':List (List Key×V)}(ok:HOk P w H h)(e:Rd H a (.dT D')):D'.length<=sizeLine/\(a==sysModules)=false/\
  ∃xs,KT H D' xs/\h.DictOfH (U6 (c_ P w)) a xs:=by
 obtain⟨z,y,xs,r,o,es,ep,h1,h2,h3,h4,h5⟩:=(show bF P w H h a (.dT D') from AJ ok e)
 refine⟨z,y,xs,r,o,es,ep,h1,h2,h3,h4,fun x hx=>?_,h5⟩;have all:∀{l:List (List Key×V)} {m:List (List Key×Addr×Value)},KT H l m->∀x∈m,(U6 (c_ P w)).is h x.1 x.2.1:=by
  intro l m q
  induction q with
  |nil=>intro x hx;exact nomatch hx
  | @cons p q ps qs hq t ih=>
   intro x hx;rcases Zz.mp hx with e|hx
   ·subst e;exact rT ok (by rw[<-hq.1];exact hq.2.1)
   ·exact ih x hx
 exact all r x hx
theorem D9{D':List (List Key×V)}(ok:HOk P w H h)(e:H a=some (.dT D')):D'.length<=sizeLine/\(a==sysModules)=false/\
  ∃xs,KT H D' xs/\h.DictOfH (U6 (c_ P w)) a xs:=vb ok (.inl e)
end
noncomputable def jT(H:Hp)(a:Addr)(y:V)(r:Option V):Prop:=
 (∃D' k,Rd H a (.dK D')/\y=kV k/\r=hG D' k)\/∃D' k b,Rd H a (.dT D')/\y=.ref b/\H b=some (.tup (k.map kV))/\r=hG D' k
noncomputable def sJ(H:Hp)(a:Addr)(y v:V)(H':Hp):Prop:=
 (∃D' k,H a=some (.dK D')/\y=kV k/\D'.length<sizeLine/\H'=upd H a (.dK (fS D' k v)))\/
 ∃D' k b,H a=some (.dT D')/\y=.ref b/\H b=some (.tup (k.map kV))/\D'.length<sizeLine/\H'=upd H a (.dT (fS D' k v))
theorem jT.k{H:Hp}{a:Addr}{D':List (Key×V)}{k:Key}(e:H a=some (.dK D')):jT H a (kV k) (hG D' k):=.inl ⟨D',k,.inl e,rfl,rfl⟩
theorem sJ.k{H:Hp}{a:Addr}{D':List (Key×V)}{k:Key}{v:V}(e:H a=some (.dK D'))(hl:D'.length<sizeLine):sJ H a (kV k) v (upd H a (.dK (fS D' k v))):=.inl ⟨D',k,e,rfl,hl,rfl⟩
section
variable{X:Cx}{aa:List (Addr×Obj)}{σ:St}{H:Hp}{s:Shared}{a:Addr}{y v:V}{u r:Value}{o:Option V}{A:ZK}{E:Value->Shared->Prop}
theorem Inv.big(I:Inv X aa σ H s):sysModules<s.heap.objs.size:=by
 have h:ZZ<s.heap.objs.size:=(I.mod.glob.keeps I.bk).lt;exact Nat.lt_trans (by decide) h
theorem pV{Q:Value->Shared->Prop}(hu:A.units+1<cLine)(I:Inv X aa σ H s)(g:jT H a y (some v))(ry:RelV y u)(h:∀w' s',Inv X aa σ H s'->RelV v w'->Q w' s'):
  Zq (model X.prog X.w) A (getItem (.ref a) u) Q E s:=by
 rcases g with ⟨D',k,e,ey,l⟩|⟨D',k,b,e,ey,eb,l⟩
 ·subst ey;obtain⟨z,hd,vs,rel,dd⟩:=v9 I.hok e;obtain⟨w',hw,rw'⟩:=jd.some_of (v:=v) (o:=valueAt vs k) (by rw[l];exact rel.val k)
  exact wpAny_getItem_of (qz ry) dd.mapOf hw (h w' _ (I.tok _) rw')
 ·subst ey;cases (show u=Value.ref b from ry)
  obtain⟨z,hd,xs,rel,dd⟩:=vb I.hok e;obtain⟨w',hw,rw'⟩:=jd.some_of (v:=v) (o:=(atKey xs k).map (·.2)) (by rw[l];exact rel.val k)
  obtain⟨p,hp,hp2⟩:=Ve.mp hw;refine wpAny_getItem_heap (Ul hu) (rT I.hok eb) dd hp ?_;rw[hp2];exact h w' _ (I.tok _) rw'
theorem oE{h':ZF}{t':Nat}{ob:HO}(I:Inv X aa σ H s)(mu:Mut (H a))(hs:X9 a s.heap h')(he:∃q,h'.get? a=some q)(new:bF X.prog X.w (upd H a ob) h' a ob):
  Inv X aa σ (upd H a ob) {s with heap:=h',toks:=t'}:=
 I.write (x:=a) (e:=a) mu (.inl rfl) (fun b q hb z=>(hs.2 b hb).trans z) he new
theorem wW{P:Zv}{w:Zl}{H':Hp}{h':ZF}{D':List (Key×V)}{vs:List (Key×Value)}(z:D'.length<=sizeLine)(hd:(a==sysModules)=false)(rel:KV D' vs)(dd:h'.DictOf (c_ P w) a vs):
  bF P w H' h' a (.dK D'):=⟨z,hd,vs,rel,dd⟩
theorem yE{H':Hp}{Q:Unit->Shared->Prop}(hu:A.units+1<cLine)(I:Inv X aa σ H s)(g:sJ H a y v H')(ry:RelV y u)(rv:RelV v r)(h:∀s',Inv X aa σ H' s'->Q () s'):
  Zq (model X.prog X.w) A (setItem (.ref a) u r) Q E s:=by
 rcases g with ⟨D',k,e,ey,l,eH⟩|⟨D',k,b,e,ey,eb,l,eH⟩
 ·subst ey eH;obtain⟨z,hd,vs,rel,dd⟩:=AQ I.hok e;have hz:vs.length<=sizeLine:=by rw[<-rel.length];exact z
  have hl:(fS D' k v).length<=sizeLine:=by have:=jc D' k v;lia
  refine wpAny_setItem_pairs (hsz:=hz) (qz ry) dd fun h' dd' hs=>h _ ?_;have he:∃q,h'.get? a=some q:=let ⟨q,_,_,hq,_⟩:=dd';⟨q,hq⟩;exact oE I (by rw[e];exact V3) hs he (wW hl hd (rel.put k rv) dd')
 ·subst ey eH;cases (show u=Value.ref b from ry)
  obtain⟨z,hd,xs,rel,dd⟩:=D9 I.hok e;have hz:xs.length<=sizeLine:=by rw[<-Paired.length rel];exact z
  have hl:(fS D' k v).length<=sizeLine:=by have:=jc D' k v;lia
  refine wpAny_setItem_heap (hsz:=hz) (Ul hu) (rT I.hok eb) dd fun h' dd' hs=>h _ ?_;obtain⟨q,es,ep,hq,h2,h3,h4,_,h5⟩:=dd';refine oE I (by rw[e];exact V3) hs ⟨q,hq⟩ ⟨hl,hd,_,(rel.put k eb rv).keeps fun c ys ec=>?_,q,es,ep,hq,h2,h3,h4,h5⟩
  rw[aG (iZ ec e (fun z=>nomatch z))];exact ec
end
section
variable{X:Cx}{aa:List (Addr×Obj)}{σ:St}{H:Hp}{s:Shared}{a:Addr}{D':List (Key×V)}{k:Key}{u:Value}{A:ZK}{E:Value->Shared->Prop}
end
noncomputable def CO(i:ZN):Prop:=∀ov iv,subscripted i false ov iv=operate [ov,iv] (getItem ov iv)
theorem BX{prog:Zv}{w:Zl}{A:ZK}{E:Value->Shared->Prop}{s:Shared}{env:Env}{value slice:ZN}{pos:Pos}{T id:String}{Q:Value->Shared->Prop}
  (hl:typeLookup (.type T) "__getitem__" = pure (some (.builtin id)))(hs:CO slice)
  (h:Zq (model prog w) A (eval value env) (fun o s₁=>Zq (model prog w) A (eval slice env) (fun i s₂=>s₂.TypeIs o T/\Zq (model prog w) A (getItem o i) Q E s₂) E s₁) E s):
  Zq (model prog w) A (eval (.Subscript value slice pos) env) Q E s:=by
 refine UV (Y0 h (fun o s₁ h₁=>Y0 h₁ (fun i s₂ h₂=>?_) fun _ _ x=>x) fun _ _ x=>x);obtain⟨hT,h₂⟩:=h₂;unfold subscriptTail;refine Z1 ?_;rw[getitemInPython_of_ne hT.not_modules];refine Z1 (Xr hT hl ?_);have fin:Zq (model prog w) A (subscripted slice false o i) (fun r s₃=>Zq (model prog w) A (letTemporaryGo value o r>>=fun _=>pure r) Q E s₃) E s₂:=by
  rw[hs o i];exact wpAny_operating (Y0 h₂ (fun r s₃ h₃=>Z1 (wpAny_letTemporaryGo (Z7 h₃))) fun _ _ x=>x)
 first
  |exact Z7 (Z1 fin)
  |exact Z1 (Z7 (Z1 fin))
  |exact Z1 fin
theorem uf{X:Cx}{aa:List (Addr×Obj)}{σ:St}{H:Hp}{s:Shared}{a:Addr}{y:V}{o:Option V}(I:Inv X aa σ H s)(g:jT H a y o):s.TypeIs (.ref a) "dict" :=by
 rcases g with ⟨D',k,e,_,_⟩|⟨D',k,b,e,_,_,_⟩
 ·obtain⟨_,_,vs,_,dd⟩:=v9 I.hok e;exact dd.typeIs
 ·obtain⟨_,_,xs,_,dd⟩:=vb I.hok e;exact dd.typeIs
noncomputable def DX(td ty:TE):TE:=fun σ H Q=>td σ H fun x H1=>ty σ H1 fun y H2=>∃a v,x=.ref a/\jT H2 a y (some v)/\Q v H2
noncomputable def Ed(td ty tv:TE)(rd:V->V->Hp->VK->Prop):TS:=fun D σ H=>td σ H fun x H1=>ty σ H1 fun y H2=>∃a v,x=.ref a/\jT H2 a y (some v)/\
 tv σ H2 fun y2 H3=>rd v y2 H3 fun z H4=>∃H5,sJ H4 a y z H5/\D.nx σ H5
section
variable{X:Cx}{o i e value:ZN}{pos pos' Fb:Pos}{td ty tv:TE}
theorem ut(hu:X.A.units+1<cLine)(ho:PE X o td)(hi:PE X i ty)(hs:CO i):PE X (.Subscript o i pos) (DX td ty):=by
 intro aa s σ H Q I h;refine BX PySem.F.slot_dict_getitem.lookup hs (thn (ho aa s σ H _ I h) fun u s1 ⟨x,H1,I1,rx,q1⟩=>thn (hi aa s1 σ H1 _ I1 q1) fun iv s2 zz=>?_);obtain⟨y,H2,I2,ry,a,v,ex,g,q2⟩:=zz;subst ex;obtain rfl:u=Value.ref a:=rx;exact⟨uf I2 g,pV hu I2 g ry fun w' s3 I3 rw'=>⟨v,H2,I3,rw',q2⟩⟩
theorem BA{op:Sv}{rd:V->V->Hp->VK->Prop}(hu:X.A.units+1<cLine)(ho:PE X o td)(hi:PE X i ty)(hv:PE X value tv)(hop:Dh X op rd)
  (ha:∀ov iv new,augStore i ov iv new=(do holding [new,ov,iv] (setItem ov iv new);release [new,ov,iv] [];pure .next)):PS X (.AugAssign (.Subscript o i Fb) op value pos) (Ed td ty tv rd):=by
 intro aa s σ H D I h;refine wpAny_AugAssign_SubscriptAny (thn (ho aa s σ H _ I h) fun u s1 ⟨x,H1,I1,rx,q1⟩=>thn (hi aa s1 σ H1 _ I1 q1) fun iv s2 zz=>?_) ha;obtain⟨y,H2,I2,ry,a,v,ex,g,q2⟩:=zz;subst ex;obtain rfl:u=Value.ref a:=rx;refine pV hu I2 g ry fun w' s3 I3 rw'=>thn (hv aa s3 σ H2 _ I3 q2) fun w2 s4 ⟨y2,H3,I4,ry2,q3⟩=>thn (hop aa s4 σ H3 v y2 w' w2 _ I4 rw' ry2 q3) fun w3 s5 zz=>?_;obtain⟨z,H4,I5,rz,H5,g5,q4⟩:=zz;exact yE hu I5 g5 ry rz fun s6 I6=>⟨σ,H5,I6,q4⟩
end
theorem zG{P:Zv}{w:Zl}{H:Hp}(h:ZF)(hb:sysModules<h.objs.size):bF P w H (h.push {cls:=.type "dict",data:=.dict #[]}) h.objs.size (.dK []):=
 ⟨Nat.zero_le _,X8.mpr (Ne.symm (Nat.ne_of_lt hb)),[],.nil,Heap.DictOf.new h⟩
section
variable{X:Cx}{pos:Pos}
end
noncomputable def rZ:List (TE×TE)->St->Hp->(List (V×V)->Hp->Prop)->Prop
 | [],_,H,Q=>Q [] H
 | (tk,tv)::r,σ,H,Q=>tk σ H fun x H1=>tv σ H1 fun y H2=>rZ r σ H2 fun ps H3=>Q ((x,y)::ps) H3
noncomputable abbrev VV:List (V×V)->List (Value×Value)->Prop:=Paired fun p q=>RelV p.1 q.1/\RelV p.2 q.2
noncomputable def PPs(X:Cx)(pos:Pos)(keys:List (Option ZN))(values:List ZN)(Fz:List (TE×TE)):Prop:=
 ∀(aa:List (Addr×Obj)) (s:Shared) (σ:St) (H:Hp) (Q:List (V×V)->Hp->Prop),Inv X aa σ H s->rZ Fz σ H Q->
  Zq (model X.prog X.w) X.A (evalPairs (pairTrees keys values X.env pos)) (fun vs s'=>∃ps H',Inv X aa σ H' s'/\VV ps vs/\Q ps H') X.xe s
theorem BV{X:Cx}{pos:Pos}:PPs X pos [] [] []:=fun aa s σ H Q I h=>pairTrees_nil_walk ⟨[],H,I,.nil,h⟩
theorem l9{X:Cx}{pos:Pos}{k v:ZN}{ks:List (Option ZN)}{vs:List ZN}{tk tv:TE}{Fz:List (TE×TE)}(hk:PE X k tk)(hv:PE X v tv)(hr:PPs X pos ks vs Fz):
  PPs X pos (some k::ks) (v::vs) ((tk,tv)::Fz):=fun aa s σ H Q I h=>
 pairTrees_cons_walk (thn (hk aa s σ H _ I h) fun u s1 ⟨x,H1,I1,rx,q1⟩=>thn (hv aa s1 σ H1 _ I1 q1) fun w2 s2 ⟨y,H2,I2,ry,q2⟩=>
  thn (hr aa s2 σ H2 _ I2 q2) fun ws s3 ⟨ps,H3,I3,rel,q3⟩=>⟨(x,y)::ps,H3,I3,.cons ⟨rx,ry⟩ rel,q3⟩)
noncomputable def jn(D' more:List (Key×V)):List (Key×V):=more.foldl (fun acc kv=>fS acc kv.1 kv.2) D'
theorem KV.merge:∀{more:List (Key×V)} {rs:List (Key×Value)} {D':List (Key×V)} {vs:List (Key×Value)},KV more rs->KV D' vs->KV (jn D' more) (merged vs rs):=by
 intro more rs D' vs r;unfold KV at r
 induction r generalizing D' vs with
 |nil=>intro q;exact q
 | @cons p q ps qs h t ih=>
  intro r0;have e:KV (fS D' p.1 p.2) (stored vs q.1 q.2):=by
   have:=r0.put p.1 h.2
   rw[<-h.1];exact this
  exact ih e
theorem kb:∀(more D':List (Key×V)),(jn D' more).length<=D'.length+more.length
 | [],D'=>by show D'.length<=D'.length+0;lia
 |p::r,D'=>by
  have h1:=kb r (fS D' p.1 p.2);have h2:=jc D' p.1 p.2;show (jn (fS D' p.1 p.2) r).length<=_;rw[Zg];lia
theorem nP{P:Zv}{w:Zl}:∀{D':List (Key×V)} {ws:List (Value×Value)},VV (D'.map fun kv=>(kV kv.1,kv.2)) ws->∃rs,Carries (c_ P w) ws rs/\KV D' rs
 | [],_,r=>by rw[Wn]at r;cases r;exact⟨[],V3,.nil⟩
 |p::D',_,r=>by
  rw[Y5]at r;cases r with
  | @cons a b as bs h t=>
   obtain⟨rs,c,q⟩:=nP (P:=P) (w:=w) t;obtain⟨b1,b2⟩:=b;exact⟨(p.1,b2)::rs,⟨qz h.1,rfl,c⟩,.cons ⟨rfl,h.2⟩ q⟩
noncomputable def AF(Fz:List (TE×TE)):TE:=fun σ H Q=>∀p,H p=none->rZ Fz σ (upd H p (.dK [])) fun ps H2=>H2 p=some (.dK [])/\∃D':List (Key×V),ps=D'.map (fun kv=>(kV kv.1,kv.2))/\D'.length<=15/\Q (.ref p) (upd H2 p (.dK (jn [] D')))
theorem Cd{X:Cx}{pos:Pos}{keys:List (Option ZN)}{values:List ZN}{Fz:List (TE×TE)}(h:PPs X pos keys values Fz)(EE:keys.all (·.isSome)=true)(hl:keys.length=values.length)(h0:keys≠[])
  (h15:keys.length<=15):PE X (.Dict keys values pos) (AF Fz):=by
 intro aa s σ H Q I q;have hn:=I.hok.fresh (Nat.le_refl s.heap.objs.size);have I1:=I.laid (a:=s.heap.objs.size) (o:=.dK []) (h':=s.heap.push {cls:=.type "dict",data:=.dict #[]}) (t':=s.toks) (fun _ _ q=>Z8 _ q) (Nat.le_refl _) (zG s.heap I.big);refine wpAny_Dict_walk (knd:=c_ X.prog X.w) EE hl h0 h15 (thn (h aa _ σ _ _ I1 (q _ hn)) fun ws s2 zz=>?_);obtain⟨ps,H2,I2,rel,e,D',ep,lk,q2⟩:=zz;subst ep;obtain⟨rs,c,rk⟩:=nP (P:=X.prog) (w:=X.w) rel;obtain⟨z,hd,vs0,r0,dd⟩:=AQ I2.hok e;cases r0;refine⟨rs,c,dd,fun h' dd' hs=>⟨.ref s.heap.objs.size,_,?_,rfl,q2⟩⟩;have hz:(jn [] D').length<=sizeLine:=by
  have h1:=kb D' [];rw[YL]at h1;rw[XU];lia
 have he:∃q,h'.get? s.heap.objs.size=some q:=let ⟨q,_,_,hq,_⟩:=dd';⟨q,hq⟩;exact oE I2 (by rw[e];exact V3) hs he (wW hz hd (rk.merge .nil) dd')
section
variable{X:Cx}{aa:List (Addr×Obj)}{σ:St}{H:Hp}{s:Shared}{a:Addr}{y d:V}{u r:Value}{o:Option V}{A:ZK}{E:Value->Shared->Prop}
end
section
variable{X:Cx}{o e f:ZN}{apos Et:Pos}{td ty tx:TE}
end
section
variable{X:Cx}{aa:List (Addr×Obj)}{σ:St}{H:Hp}{s:Shared}{a:Addr}{D':List (Key×V)}{A:ZK}{E:Value->Shared->Prop}
end
section
variable{X:Cx}{aa:List (Addr×Obj)}{σ:St}{H:Hp}{s:Shared}{a:Addr}{y:V}{u:Value}{A:ZK}{E:Value->Shared->Prop}
end
end L2
namespace Att
open PySem PySem.W PySem.Calls PyProof.Rows
section
variable{prog:Zv}{w:Zl}{A:ZK}{E:Value->Shared->Prop}{s:Shared}{K:Frag}
end
end Att
namespace L2
open PySem PySem.Spec PyProof.Rows
end L2
namespace L2
open PySem PySem.Spec PyProof.Rows
end L2
namespace L2
open PySem PySem.Spec PyProof.Rows
section
variable{P:Zv}{w:Zl}{K:Z3}{mg:Str->Option Value}{base:ZF}
end
section
variable{X:Cx}
end
section
variable{κ:Type}[DecidableEq κ]
end
end L2
end
section
namespace FD
open PySem L2 FF
section
variable{P:Zv}{w:Zl}{K:Z3}{mg:Str->Option Value}{base:ZF}{f:Addr}{fd:Zf}
end
noncomputable def Em(i own:Nat)(ag:List Nat)(g:TG)(te:TE):TE:=fun σ H Q=>∃(a:Addr) (rf:Nat->Addr) (cs:List Pt) (gf:Pt->Int),σ[i]?=some (some (.ref a))/\PLs H a rf cs/\cs.length<=400/\
 (∀k,k<cs.length->∀H',au H H'->∀Q':VK,(∀H4,au H' H4->Q' (.int (gf (at' cs k))) H4)->g (.ref (rf k)) (compσ own ag σ) H' fun σ2 H2=>dh own ag σ σ2/\te σ2 H2 Q')/\
 ∀D H',au H H'->H' D=some (.lst ((cs.map gf).map V.int))->Q (.ref D) H'
theorem pf{K:Z3}{i own:Nat}{ag:List Nat}{g:TG}{te:TE}(gm:∀x σ H Q Q',(∀s h,Q s h->Q' s h)->g x σ H Q->g x σ H Q')(σ:L2.St)(H:Hp)(Q:VK)(h:Em i own ag g te σ H Q):h_ (jL K (dz i)) own ag g (fun _ H Q=>Q true H) te σ H Q:=by
 obtain⟨a,rf,cs,gf,e,hP,n4,el,q⟩:=h;refine⟨_,e,a,rfl,⟨_,SqL.of hP.1⟩,cs.length,fun i ys H'=>au H H'/\ys=(Z4 i).map fun j=>V.int (gf (at' cs j)),aS (by lia),⟨au.refl _,rfl⟩,
  fun ys H' hW=>⟨⟨aw cs.length rf,SqL.of (hW.1 _ _ hP.1),by rw[av];exact Nat.le_refl _⟩,fun D hD=>?_⟩,fun i ys H' hi hW=>⟨⟨aw cs.length rf,_,SqL.of (hW.1 _ _ hP.1),aY hi⟩,fun x H3 hy=>?_⟩⟩
 ·obtain⟨sW,rfl⟩:=hW;refine q D _ (sW.trans (ao hD _)) ?_;rw[aj];congr 2;apply X4;intro j;by_cases c:j<cs.length
  ·rw[Zn,YR c,Zn,Zn]
   have:cs[j]?=some (at' cs j):=by unfold at';rw[Z0,Z2 c];rfl
   rw[this];rfl
  ·rw[ZO (by rw[Z6,Zd];lia),ZO (by rw[Z6,Z6];lia)]
 ·obtain⟨sW,rfl⟩:=hW;obtain⟨rfl,hy⟩:=hy;obtain⟨_,rfl⟩:=bN (hy _ (SqL.of (sW _ _ hP.1)));refine gm _ _ _ _ _ (fun σ2 H2 z=>⟨z.1,c9 z.2⟩) (el i hi _ sW (fun v H4=>au H H4/\(Z4 i).map (fun j=>V.int (gf (at' cs j)))++[v]=(Z4 (i+1)).map fun j=>V.int (gf (at' cs j))) fun H4 s4=>⟨sW.trans s4,?_⟩);rw[Ye,ZU];rfl
noncomputable def cK(i r o:Int):List (Key×V):=[(YZ "inside",.int i),(YZ "rim",.int r),(YZ "outside",.int o)]
noncomputable def bump(s:Str)(n i r o:Int):List (Key×V):=if s = "inside" then cK (i+n) r o else if s = "rim" then cK i (r+n) o else cK i r (o+n)
theorem Be{s:Str}(h:s = "rim"\/s = "inside"\/s = "outside")(i r o:Int):∃c:Int,hG (cK i r o) (YZ s)=some (.int c)/\∀n,fS (cK i r o) (YZ s) (.int (c+n))=bump s n i r o:=by
 rcases h with rfl|rfl|rfl
 ·exact⟨r,rfl,fun n=>rfl⟩
 ·exact⟨i,rfl,fun n=>rfl⟩
 ·exact⟨o,rfl,fun n=>rfl⟩
end FD
end
section
namespace FF
noncomputable def Rot(l xs:List Pt):Prop:=∃A B,xs=A++B/\l=B++A
noncomputable def dY(xs:List Pt)(k:Nat):List Pt:=xs.drop k++xs.take k
theorem Rot.len{l xs:List Pt}(h:Rot l xs):l.length=xs.length:=by
 obtain⟨A,B,rfl,rfl⟩:=h;simp[Nat.add_comm]
theorem kI(xs:List Pt)(k:Nat):Rot (dY xs k) xs:=⟨xs.take k,xs.drop k,(ZC k xs).symm,rfl⟩
noncomputable def wt(l xs:List Pt):Prop:=Rot l xs\/Rot l xs.reverse
theorem wt.len{l xs:List Pt}(h:wt l xs):l.length=xs.length:=by
 rcases h with h|h
 ·exact h.len
 ·rw[h.len,Ze]
theorem oJ{cs:List Pt}{k i:Nat}(hk:k<cs.length)(hi:i<cs.length):at' (dY cs k) i=at' cs (if k+i<cs.length then k+i else k+i-cs.length):=by
 unfold dY at';rw[Z0,Z0,List.getElem?_append,Zu];by_cases c:k+i<cs.length
 ·rw[if_pos (by lia),if_pos c,YM]
 ·rw[if_neg (by lia),if_neg c,List.getElem?_take,if_pos (by lia),show i-(cs.length-k)=k+i-cs.length by lia]
theorem Rot.mem{l xs:List Pt}(h:Rot l xs){p:Pt}(hp:p∈l):p∈xs:=by
 obtain⟨A,B,rfl,rfl⟩:=h;simp only[ZE]at *
 exact hp.symm
theorem w6{cs:List Pt}{k:Nat}(hk:k<cs.length)(n3:3<=cs.length):at' (dY cs k) 0=at' cs k/\at' (dY cs k) 1=at' cs (nx cs.length k)/\at' (dY cs k) 2=at' cs (nx cs.length (nx cs.length k)):=by
 refine⟨?_,?_,?_⟩
 ·rw[oJ hk (by lia),if_pos (by lia)];rfl
 ·rw[oJ hk (by lia)]
  congr 1;unfold nx;(repeat' split)<;>lia
 ·rw[oJ hk (by lia)]
  congr 1;unfold nx;(repeat' split)<;>lia
noncomputable def ll(p0 p1 p2:Pt)(w0 w1 w2:Int):Int:=((w1-w0)*(p2.2-p0.2)-(w2-w0)*(p1.2-p0.2)).fdiv (turn p0 p1 p2)
noncomputable def k_(p0 p1 p2:Pt)(w0 w1 w2:Int):Int:=((p1.1-p0.1)*(w2-w0)-(p2.1-p0.1)*(w1-w0)).fdiv (turn p0 p1 p2)
noncomputable def nQ(p0 p1 p2:Pt)(w0 w1 w2:Int):Int:=w0-ll p0 p1 p2 w0 w1 w2*p0.1-k_ p0 p1 p2 w0 w1 w2*p0.2
noncomputable def tbT(p0 p1 p2 w0 w1 w2:Pt):Tn:=⟨ll p0 p1 p2 w0.1 w1.1 w2.1,k_ p0 p1 p2 w0.1 w1.1 w2.1,ll p0 p1 p2 w0.2 w1.2 w2.2,k_ p0 p1 p2 w0.2 w1.2 w2.2,nQ p0 p1 p2 w0.1 w1.1 w2.1,nQ p0 p1 p2 w0.2 w1.2 w2.2⟩
theorem u6{x a:Int}(h:a≠0){b:Int}(hx:-b<=x/\x<=b):-b<=x.fdiv a/\x.fdiv a<=b:=by
 have key:∀{y c:Int},0<c->(-b<=y/\y<=b)->-b<=y/c/\y/c<=b:=fun {y c} hc hy=>by
  have e:=Int.mul_ediv_add_emod y c;have m0:=Int.emod_nonneg y (show c≠0 by lia)
  have m1:=Int.emod_lt_of_pos y hc;generalize y/c=q at *
  generalize y%c=r at *
  constructor
  ·apply Z9;intro z
   have:=Int.mul_le_mul_of_nonneg_left (show q+1<=-b by lia) (show 0<=c by lia)
   have h2:c*(q+1)=c*q+c:=by grind
   have h3:c*-b<=-b:=by
    have:=Int.mul_nonneg (show 0<=c-1 by lia) (show 0<=b by lia)
    have e3:(c-1)*b=c*b-b:=by grind
    have e4:c*-b=-(c*b):=by grind
    lia
   lia
  ·apply Z9;intro z
   have:=Int.mul_le_mul_of_nonneg_left (show b+1<=q by lia) (show 0<=c by lia)
   have h2:c*(b+1)=c*b+c:=by grind
   have h3:=Int.mul_nonneg (show 0<=c-1 by lia) (show 0<=b by lia)
   have e3:(c-1)*b=c*b-b:=by grind
   lia
 rcases Int.lt_or_gt_of_ne h with c|c
 ·have e:x.fdiv a=(-x).fdiv (-a):=by rw[Int.neg_fdiv_neg]
  rw[e,Int.fdiv_eq_ediv_of_nonneg _ (by lia)]
  exact key (by lia) (by lia)
 ·rw[Int.fdiv_eq_ediv_of_nonneg _ (by lia)]
  exact key c hx
noncomputable def lexLt(a b:Pt):Prop:=a.1<b.1\/(a.1=b.1/\a.2<b.2)
theorem B_(a b:Pt):lexLt a b\/a=b\/lexLt b a:=by
 unfold lexLt;rcases Int.lt_trichotomy a.1 b.1 with h|h|h
 ·exact .inl (.inl h)
 ·rcases Int.lt_trichotomy a.2 b.2 with g|g|g
  ·exact .inl (.inr ⟨h,g⟩)
  ·exact .inr (.inl (YT h g))
  ·exact .inr (.inr (.inr ⟨h.symm,g⟩))
 ·exact .inr (.inr (.inl h))
theorem pS(P:Nat->Pt):∀n:Nat,0<n->∃k,k<n/\∀i,i<n->P i=P k\/lexLt (P k) (P i)
 |1,_=>⟨0,by decide,fun i hi=>.inl (by rw[show i=0 by lia])⟩
 |n+2,_=>by
  obtain⟨k,hk,h⟩:=pS P (n+1) (by lia)
  rcases B_ (P k) (P (n+1)) with c|c|c
  ·refine⟨k,by lia,fun i hi=>?_⟩
   by_cases e:i=n+1
   ·rw[e];exact .inr c
   ·exact h i (by lia)
  ·refine⟨k,by lia,fun i hi=>?_⟩
   by_cases e:i=n+1
   ·rw[e];exact .inl c.symm
   ·exact h i (by lia)
  ·refine⟨n+1,by lia,fun i hi=>?_⟩
   by_cases e:i=n+1
   ·rw[e];exact .inl rfl
   ·refine .inr ?_;rcases h i (by lia) with g|g
    ·rw[g];exact c
    ·unfold lexLt at *;lia
theorem yQ{a b c:Pt}(h1:lexLt b a)(h2:lexLt b c)(ht:turn a b c=0):Back a b c:=by
 have e:(a.1-b.1)*(c.2-b.2)=(a.2-b.2)*(c.1-b.1):=by unfold turn at ht;grind
 have k1:0<a.1-b.1\/(a.1-b.1=0/\0<a.2-b.2):=by unfold lexLt at h1;lia
 have k2:0<c.1-b.1\/(c.1-b.1=0/\0<c.2-b.2):=by unfold lexLt at h2;lia
 unfold Back;generalize a.1-b.1=u1 at *
 generalize a.2-b.2=u2 at *
 generalize c.1-b.1=v1 at *
 generalize c.2-b.2=v2 at *
 rcases k1 with k1|⟨k1,k1'⟩
 ·rcases k2 with k2|⟨k2,k2'⟩
  ·exact⟨v1,u1,k2,k1,Int.mul_comm _ _,by rw[e];exact Int.mul_comm _ _⟩
  ·rw[k2,Int.mul_zero]at e;rcases Int.mul_eq_zero.mp e with z|z<;>lia
 ·rw[k1,Int.zero_mul]at e;have z:v1=0:=by rcases Int.mul_eq_zero.mp e.symm with z|z<;>lia
  subst z;exact⟨v2,u2,by lia,k1',by rw[k1,Int.mul_zero,Int.mul_zero],Int.mul_comm _ _⟩
theorem cu.bend{n:Nat}{P:Nat->Pt}(F:cu n P)(n3:3<=n):∃k,k<n/\turn (P k) (P (nx n k)) (P (nx n (nx n k)))≠0:=by
 obtain⟨m,hm,h⟩:=pS P n (by lia)
 refine⟨pvN n m,bJ hm,fun z=>F.nob _ (bJ hm) ?_⟩;rw[jv hm]at z ⊢;have d1:lexLt (P m) (P (pvN n m)):=by
  rcases h _ (bJ hm) with e|e
  ·exact absurd (F.inj _ _ (bJ hm) hm e) (by unfold pvN;split<;>lia)
  ·exact e
 have d2:lexLt (P m) (P (nx n m)):=by
  rcases h _ (aK hm) with e|e
  ·exact absurd (F.inj _ _ (aK hm) hm e) (by unfold nx;split<;>lia)
  ·exact e
 exact yQ d1 d2 z
end FF
end
section
namespace L2
open PySem PySem.Spec PyProof.Rows
section
variable{X:Cx}
end
end L2
end
section
namespace L2
open PySem PySem.Spec PyProof.Rows
theorem fB{K:Z3}{a:Addr}{n:Nat}{rf:Nat->Addr}{ag:List Nat}{tt:TT}{σ:St}{H:Hp}{R:Addr->List V->Hp->Prop}(b:Nat->Bool)(hn:n<=sizeLine)(hl:SqL K H a ((Z4 n).map fun i=>V.ref (rf i)))
  (ht:∀i,i<n->∀Qb:Bool->Hp->Prop,Qb (b i) H->tt ((compσ 1 ag σ).set 0 (some (.ref (rf i)))) H Qb)
  (hd:∀D,H D=none->R D (((Z4 n).filter b).map fun i=>V.ref (rf i)) H):
  ∃(n:Nat) (W:Nat->List V->Hp->Prop),n<=sizeLine/\W 0 [] H/\(∀ys H,W n ys H->(Itl K a).stop n H/\∀D,H D=none->R D ys H)/\
   ∀i ys H,i<n->W i ys H->(Itl K a).go i H/\∀x H',(Itl K a).yld i H x H'->dX 0 x (compσ 1 ag σ) H' fun σ2 H2=>dh 1 ag σ σ2/\tt σ2 H2 fun b H3=>if b=true then dz 0 σ2 H3 fun v H4=>W (i+1) (ys++[v]) H4 else W (i+1) ys H3:=by
 refine⟨n,fun i ys H'=>H'=H/\ys=((Z4 i).filter b).map fun i=>V.ref (rf i),hn,⟨rfl,rfl⟩,?_,?_⟩
 ·rintro ys H' ⟨rfl,rfl⟩;exact⟨⟨_,hl,by rw[Z6,Zd];exact Nat.le_refl _⟩,hd⟩
 ·rintro i ys H' hi ⟨rfl,rfl⟩;have hg:((Z4 n).map fun i=>V.ref (rf i))[i]?=some (.ref (rf i)):=by rw[Zn,YR hi];rfl
  refine⟨⟨_,_,hl,hg⟩,fun x H2 hy=>?_⟩;obtain⟨rfl,hy⟩:=hy;have hx:=hy _ hl;rw[hg]at hx;cases hx;refine⟨dC (by decide),ht i hi _ ?_⟩
  have step:(((Z4 (i+1)).filter b).map fun i=>V.ref (rf i))=(((Z4 i).filter b).map fun i=>V.ref (rf i))++(if b i=true then [.ref (rf i)] else []):=by
   rw[Ye,YX,ZU,YY,Wy]
   split<;>rfl
  cases hb:b i with
  |true=>
   refine c9 ⟨.ref (rf i),by simp[compσ],rfl,?_⟩
   show _=(((Z4 (i+1)).filter b).map fun i=>V.ref (rf i));rw[step,if_pos hb]
  |false=>
   refine fk ⟨rfl,?_⟩;show _=(((Z4 (i+1)).filter b).map fun i=>V.ref (rf i));rw[step,if_neg (by rw[hb];decide),ZT]
end L2
end
section
namespace L2
open PySem PySem.Spec PyProof.Rows
noncomputable def Dw:R2:=fun x y H Q=>∃i j,x=.int i/\y=.int j/\(j≠0/\Big j)/\Q (.int (i.fdiv j)) H
theorem i4{X:Cx}:OpR X (binaryOp .FloorDiv) Dw:=opI fun _ _ _ _ _ _ _ hc q=>Uh hc.1 q (.inl (Vv (qX hc.2)))
end L2
namespace FD
open PySem L2 FF
noncomputable abbrev ig:Stmt:=top 42
noncomputable abbrev qx:Stmt:=top 43
noncomputable abbrev vx:Stmt:=top 45
noncomputable abbrev sTB:Stmt:=top 44
noncomputable abbrev zH:Stmt:=top 39
noncomputable abbrev sg:Stmt:=top 41
noncomputable abbrev qq:Stmt:=top 40
noncomputable abbrev kX:Stmt:=top 38
noncomputable def FLs(H:Hp)(r:Addr)(n:Nat)(Fs:Nat->List Pt):Prop:=∃(ts:Nat->Addr) (rg:Nat->Nat->Addr),H r=some (.lst (aw n ts))/\∀i,i<n->PLs H (ts i) (rg i) (Fs i)
theorem FLs.mono{H H':Hp}{r:Addr}{n:Nat}{Fs:Nat->List Pt}(h:FLs H r n Fs)(s:au H H'):FLs H' r n Fs:=by
 obtain⟨ts,rg,h1,h2⟩:=h;exact⟨ts,rg,s _ _ h1,fun i hi=>(h2 i hi).mono s⟩
noncomputable def FW(H0:Hp)(Fs:Nat->List Pt)(i:Nat)(ys:List V)(H':Hp):Prop:=au H0 H'/\∃(ts:Nat->Addr) (rg:Nat->Nat->Addr),ys=aw i ts/\∀j,j<i->PLs H' (ts j) (rg j) (Fs j)
theorem FW.nil{H0:Hp}{Fs:Nat->List Pt}(a:Addr):FW H0 Fs 0 [] H0:=⟨au.refl _,fun _=>a,fun _ _=>a,rfl,fun j hj=>absurd hj (by lia)⟩
theorem FW.snoc{H0 H' H4:Hp}{Fs:Nat->List Pt}{i:Nat}{ys:List V}(h:FW H0 Fs i ys H')(s:au H' H4){t:Addr}{rg:Nat->Addr}(p:PLs H4 t rg (Fs i)):FW H0 Fs (i+1) (ys++[.ref t]) H4:=by
 obtain⟨s0,ts,rg0,rfl,hp⟩:=h;refine⟨s0.trans s,fun j=>if j<i then ts j else t,fun j=>if j<i then rg0 j else rg,fw,fun j hj=>?_⟩
 by_cases c:j<i
 ·simp only[if_pos c];exact (hp j c).mono s
 ·have e:j=i:=by lia
  subst e;simp only[if_neg c];exact p
theorem FW.fin{H0 H':Hp}{Fs:Nat->List Pt}{n:Nat}{ys:List V}(h:FW H0 Fs n ys H'){D:Addr}(hD:H' D=none):au H0 (upd H' D (.lst ys))/\FLs (upd H' D (.lst ys)) D n Fs:=by
 obtain⟨s0,ts,rg0,rfl,hp⟩:=h;have s:=ao hD (.lst (aw n ts));exact⟨s0.trans s,ts,rg0,aj,fun i hi=>(hp i hi).mono s⟩
noncomputable def ja:Sp:=fun vs H Q _=>∃l rf cs,vs=[.ref l]/\PLs H l rf cs/\cs.length<=400/\∀r H',au H H'->FLs H' r cs.length (dY cs)->Q (.ref r) H'
noncomputable def xf:Sp:=fun vs H Q _=>∃l rf cs,vs=[.ref l]/\PLs H l rf cs/\aJ cs/\aF cs/\∀r rg cs' H',au H H'->PLs H' r rg cs'->Rot cs' cs->turn (at' cs' 0) (at' cs' 1) (at' cs' 2)≠0->Q (.ref r) H'
noncomputable def gL(n:Int):Prop:=-(10^40)<=n/\n<=10^40
noncomputable def yq:Sp:=fun vs H Q _=>∃l rf cs w,∃ns:List Int,vs=[.ref l,.ref w]/\PLs H l rf cs/\aJ cs/\3<=cs.length/\H w=some (.lst (ns.map V.int))/\3<=ns.length/\(∀n,n∈ns->gL n)/\turn (at' cs 0) (at' cs 1) (at' cs 2)≠0/\
 ∀t H',au H H'->H' t=some (.tup [.int (ll (at' cs 0) (at' cs 1) (at' cs 2) (ns.getD 0 0) (ns.getD 1 0) (ns.getD 2 0)),.int (k_ (at' cs 0) (at' cs 1) (at' cs 2) (ns.getD 0 0) (ns.getD 1 0) (ns.getD 2 0)),.int (nQ (at' cs 0) (at' cs 1) (at' cs 2) (ns.getD 0 0) (ns.getD 1 0) (ns.getD 2 0))])->Q (.ref t) H'
noncomputable def i9(T:Tn):Prop:=Sm (10^200) T.a/\Sm (10^200) T.b/\Sm (10^200) T.c/\Sm (10^200) T.d/\Sm (10^200) T.e/\Sm (10^200) T.f
noncomputable def CI:Sp:=fun vs H Q _=>∃l rf cs w rg ds,vs=[.ref l,.ref w]/\PLs H l rf cs/\aJ cs/\3<=cs.length/\PLs H w rg ds/\aJ ds/\3<=ds.length/\ds.length<=400/\turn (at' cs 0) (at' cs 1) (at' cs 2)≠0/\
 ∀t H',au H H'->TnA H' t (tbT (at' cs 0) (at' cs 1) (at' cs 2) (at' ds 0) (at' ds 1) (at' ds 2))->i9 (tbT (at' cs 0) (at' cs 1) (at' cs 2) (at' ds 0) (at' ds 1) (at' ds 2))->Q (.ref t) H'
noncomputable def isT(T:Tn):Bool:=decide (T.det=1\/T.det=-1)
noncomputable def vR:Sp:=fun vs H Q _=>∃t T,vs=[.ref t]/\TnA H t T/\i9 T/\Q (.bl (isT T)) H
noncomputable def um:Sp:=fun vs H Q _=>∃tu pt T p,vs=[.ref pt,.ref tu]/\TnA H tu T/\PtA H pt p/\i9 T/\Co p/\∀t H',au H H'->PtA H' t (T.led p)->Q (.ref t) H'
noncomputable def tw:Sp:=fun vs H Q _=>∃l rf cs tu T,vs=[.ref l,.ref tu]/\PLs H l rf cs/\aJ cs/\cs.length<=400/\TnA H tu T/\i9 T/\∀r rg H',au H H'->PLs H' r rg (cs.map T.led)->Q (.ref r) H'
theorem Dy{n:Nat}{rf:Nat->Addr}(h:3<=n):atI (aw n rf) 0=some (.ref (rf 0)):=ef (k:=0) (by lia)
theorem vq{n:Nat}{rf:Nat->Addr}(h:3<=n):atI (aw n rf) 1=some (.ref (rf 1)):=ef (k:=1) (by lia)
theorem vP{n:Nat}{rf:Nat->Addr}(h:3<=n):atI (aw n rf) 2=some (.ref (rf 2)):=ef (k:=2) (by lia)
theorem qy{cs:List Pt}{p:Pt}(h:p∈cs):∃t,t<cs.length/\at' cs t=p:=by
 obtain⟨t,ht,e⟩:=Xk.mp h;refine⟨t,ht,?_⟩;unfold at';rw[Z0,Z2 ht];exact e
theorem aJ.rot{l cs:List Pt}(h:aJ cs)(r:Rot l cs):aJ l:=fun i hi=>by
 obtain⟨t,ht,e⟩:=qy (r.mem (b7 hi));rw[<-e];exact h t ht
theorem vF{x y z:V}:atI [x,y,z] 0=some x:=rfl
theorem vf{x y z:V}:atI [x,y,z] 1=some y:=rfl
theorem oq{x y z:V}:atI [x,y,z] 2=some z:=rfl
theorem l4{a b c d:Int}(h1:Sm (2*10^40) a)(h2:Sm (2*10^40) b)(h3:Sm (2*10^40) c)(h4:Sm (2*10^40) d):Sm (8*10^80) (a*b-c*d):=by
 have m1:=gD h1 h2;have m2:=gD h3 h4;unfold Sm at *
 lia
theorem Ap{i:Int}(h:Sm (8*10^80) i):Big i:=by unfold Sm at h;exact bv (by lia) (by lia)
theorem n8{i:Int}(h:Sm (2*10^40) i):Big i:=by unfold Sm at h;exact bv (by lia) (by lia)
theorem dP{a b:Int}(h1:gL a)(h2:gL b):Sm (2*10^40) (a-b):=by unfold gL at h1 h2;unfold Sm;lia
theorem oY{p0 p1 p2:Pt}(c0:Co p0)(c1:Co p1)(c2:Co p2){w0 w1 w2:Int}(b0:gL w0)(b1:gL w1)(b2:gL w2)(h:turn p0 p1 p2≠0):Sm (8*10^80) (turn p0 p1 p2)/\Sm (8*10^80) (ll p0 p1 p2 w0 w1 w2)/\Sm (8*10^80) (k_ p0 p1 p2 w0 w1 w2)/\Sm (10^130) (nQ p0 p1 p2 w0 w1 w2):=by
 have hx:Sm (8*10^80) (ll p0 p1 p2 w0 w1 w2):=u6 h (l4 (dP b1 b0) (dP c2.2 c0.2) (dP b2 b0) (dP c1.2 c0.2));have hy:Sm (8*10^80) (k_ p0 p1 p2 w0 w1 w2):=u6 h (l4 (dP c1.1 c0.1) (dP b2 b0) (dP c2.1 c0.1) (dP b1 b0));refine⟨l4 (dP c1.1 c0.1) (dP c2.2 c0.2) (dP c1.2 c0.2) (dP c2.1 c0.1),hx,hy,?_⟩;have m1:=gD (B:=10^40) (y:=p0.1) hx ⟨by have:=c0.1;lia,by have:=c0.1;lia⟩
 have m2:=gD (B:=10^40) (y:=p0.2) hy ⟨by have:=c0.2;lia,by have:=c0.2;lia⟩
 unfold nQ;unfold Sm gL at *
 lia
theorem eV{i:Int}(h:Sm (10^200) i):Big i:=by unfold Sm at h;unfold Big;constructor<;>(have e:(10:Int)^200<2^1000:=by decide +kernel);all_goals (generalize (10:Int)^200=a at *;generalize (2:Int)^1000=b at *;lia)
section
variable{P:Zv}{w:Zl}{K:Z3}{mg:Str->Option Value}{base:ZF}{f:Addr}{fd:Zf}
theorem ue:aD ["corners"] ["corners"] (aq ig):=.mk'
theorem sG:(["k","corners"]:List Str).Nodup:=by decide +kernel
theorem sE{n:Nat}(F:Fun K "rotations" "rotations" ig f fd)(E5:mg "len" = none)(E4:mg "range" = none):aI P w K mg base CX0 (n+1) f fd ["corners"] ja:=by
 refine F.ok ue (by rintro _ _ _ _⟨_,_,_,rfl,_⟩;rfl) fun E3 A outer s H vs Q E hr h=>?_
 obtain⟨l,rf,cs,rfl,hp,n4,q⟩:=h;refine⟨_,ap (aC (bA (N':=["k","corners"]) (own:=1) (ag:=[0]) rfl (aO.of (sc:=aq ig) (N0:=["corners"]) rfl rfl (by decide +kernel)) (eC rfl E4 (pa1 (aN aW rfl E5 ZJ (pa1 (pv 0))))) (fun _ _ _ _ _ _=>(aM (i:=0) sG rfl (ZQ rfl))) (fun C cl fp aa s₂ H₂=>bQ) (fun _ _ _ _ _ _=>(xo (pv 1) (pv 0) (pv 1) (pv 0))))),?_⟩
 refine⟨_,rfl,l,_,rfl,.inl (SqL.of hp.1),?_⟩;rw[av];refine⟨_,rfl,by lia,by lia,cs.length,fun i ys H'=>FW H (dY cs) i ys H',aS (by lia),FW.nil l,fun ys H' hW=>⟨by show _<=_;lia,fun D hD=>?_⟩,fun i ys H' hi hW=>⟨by show _<_;lia,fun x H2 hy=>?_⟩⟩
 ·have:=hW.fin hD
  exact q D _ this.1 this.2
 ·obtain⟨rfl,rfl⟩:=hy;refine⟨dC (by decide),c9 ?_⟩
  refine⟨l,rf,cs,i,rfl,?_,hp.mono hW.1,by lia,n4,fun r3 rg H4 s4 p4=>hW.snoc s4 p4⟩
  rw[show (0:Int)+(i:Int)=(i:Int) by lia];rfl
theorem De:aD ["corners"] ["corners"] (aq qx):=.mk'
theorem BY:(["told"]:List Str).Nodup:=by decide +kernel
theorem By(F:Fun K "bent_first" "bent_first" qx f fd)(cR:Cal P w K mg base 1 "rotations" ["corners"] ja)(cT:Cal P w K mg base 1 "turn" ["start","end","point"] gF):aI P w K mg base CX0 2 f fd ["corners"] xf:=by
 refine F.ok De (by rintro _ _ _ _⟨_,_,_,rfl,_⟩;rfl) fun E3 A outer s H vs Q E hr h=>?_
 obtain⟨l,rf,cs,rfl,hp,co,fe,q⟩:=h;refine⟨_,ap (aC (ak aH (bA (N':=["told"]) (own:=1) (ag:=[]) rfl (aO.of (sc:=aq qx) (N0:=["corners"]) rfl rfl (by decide +kernel)) (bp (ay cR hr (pa1 (pv 0)))) (fun _ _ _ _ _ _=>(aM (i:=0) BY rfl (ZQ rfl))) (fun C cl fp aa s₂ H₂=>fh (aQ iS (ay cT hr (pa3 (ak gr (pv 0) ad) (ak gr (pv 0) ad) (ak gr (pv 0) ad))) ad)) (fun _ _ _ _ _ _=>(pv 0))) ad)),?_⟩
 have n3:=fe.lo;have FJ:=fe.hi;refine⟨_,rfl,l,rf,cs,rfl,hp,by lia,fun r H2 s2 hF=>?_⟩
 obtain⟨ts,rg,hr2,hrow⟩:=hF;refine⟨r,rfl,⟨_,SqL.of hr2⟩,?_⟩;have len:∀i,(dY cs i).length=cs.length:=fun i=>(kI cs i).len;refine fB (n:=cs.length) (rf:=ts) (fun i=>!(turn (at' (dY cs i) 0) (at' (dY cs i) 1) (at' (dY cs i) 2)==0)) (aS (by lia)) (SqL.of hr2) (fun i hi Qb hQ=>?_) (fun D2 hD2=>?_)
 ·have hr3:=hrow i hi;have c3:=co.rot (kI cs i);have l3:3<=(dY cs i).length:=by rw[len];exact n3
  refine⟨_,rfl,ts i,_,_,_,rfl,rfl,SqL.of hr3.1,Dy l3,_,rfl,ts i,_,_,_,rfl,rfl,SqL.of hr3.1,vq l3,_,rfl,ts i,_,_,_,rfl,rfl,SqL.of hr3.1,vP l3,_,_,_,_,_,_,rfl,hr3.2 0 (by lia),hr3.2 1 (by lia),hr3.2 2 (by lia),c3 0 (by lia),c3 1 (by lia),c3 2 (by lia),rfl,_,rfl,?_⟩
  rw[cX];exact hQ
 obtain⟨k,hk,hb⟩:=fe.ok.bend n3;obtain⟨e0,e1,e2⟩:=w6 hk n3;obtain⟨L,eL⟩:∃L,L=(Z4 cs.length).filter fun i=>!(turn (at' (dY cs i) 0) (at' (dY cs i) 1) (at' (dY cs i) 2)==0):=⟨_,rfl⟩;have mL:∀j,j∈L->j<cs.length/\turn (at' (dY cs j) 0) (at' (dY cs j) 1) (at' (dY cs j) 2)≠0:=fun j hj=>by
  rw[eL,ZI,Zy]at hj;simpa using hj
 have kL:k∈L:=by
  rw[eL,ZI,Zy];refine⟨hk,?_⟩;rw[e0,e1,e2];simpa using hb
 rw[<-eL];cases L with
 |nil=>cases kL
 |cons j L=>
  obtain⟨hj,hjt⟩:=mL j (Za);have s3:=ao hD2 (.lst ((j::L).map fun i=>V.ref (ts i)));refine⟨D2,_,_,_,rfl,rfl,SqL.of aj,c8 (j:=0) rfl,?_⟩;exact q (ts j) _ _ _ (s2.trans s3) ((hrow j hj).mono s3) (kI cs j) hjt
theorem iP:aD ["points","wanted","corner","second","third","area","by_x","by_y"] ["points","wanted"] (aq vx):=.mk'
theorem BT(F:Fun K "coefficients" "coefficients" vx f fd)(cT:Cal P w K mg base 1 "turn" ["start","end","point"] gF):aI P w K mg base CX0 2 f fd ["points","wanted"] yq:=by
 refine F.ok iP (by rintro _ _ _ _⟨_,_,_,_,_,rfl,_⟩;rfl) fun E3 A outer s H vs Q E hr h=>?_
 obtain⟨l,rf,cs,w',ns,rfl,hp,co,n3,hw,m3,hb,ht,q⟩:=h;refine⟨_,am (aE (i:=2) iP.nd (ak aH (pv 0) ad))
  (am (aE (i:=3) iP.nd (b8 (pa3 (ai bf (ak ax (ak aH (pv 0) ad) ad) (ak ax (pv 2) ad)) (ai bf (ak ax (ak aH (pv 0) ad) ad) (ak ax (pv 2) ad)) (ai bf (ak aH (pv 1) ad) (ak aH (pv 1) ad)))))
  (am (aE (i:=4) iP.nd (b8 (pa3 (ai bf (ak ax (ak aH (pv 0) ad) ad) (ak ax (pv 2) ad)) (ai bf (ak ax (ak aH (pv 0) ad) ad) (ak ax (pv 2) ad)) (ai bf (ak aH (pv 1) ad) (ak aH (pv 1) ad)))))
  (am (aE (i:=5) iP.nd (ay cT hr (pa3 (pv 2) (ak aH (pv 0) ad) (ak aH (pv 0) ad))))
  (am (aE (i:=6) iP.nd (ai i4 (ai bf (ai a8 (ak ax (pv 3) ad) (ak ax (pv 4) ad)) (ai a8 (ak ax (pv 4) ad) (ak ax (pv 3) ad))) (pv 5)))
  (am (aE (i:=7) iP.nd (ai i4 (ai bf (ai a8 (ak ax (pv 3) ad) (ak ax (pv 4) ad)) (ai a8 (ak ax (pv 4) ad) (ak ax (pv 3) ad))) (pv 5)))
  (ap (aC (b8 (pa3 (pv 6) (pv 7) (ai bf (ai bf (ak aH (pv 1) ad) (ai a8 (pv 6) (ak ax (pv 2) ad))) (ai a8 (pv 7) (ak ax (pv 2) ad)))))))))))),?_⟩
 have p0:=hp.2 0 (by lia)
 have p1:=hp.2 1 (by lia)
 have p2:=hp.2 2 (by lia)
 have c0:=co 0 (by lia)
 have c1:=co 1 (by lia)
 have c2:=co 2 (by lia)
 have w0:atI (ns.map V.int) 0=some (.int (ns.getD 0 0)):=by
  match ns,m3 with
  |_::_::_::_,_=>exact c8 (j:=0) rfl
 have w1:atI (ns.map V.int) 1=some (.int (ns.getD 1 0)):=by
  match ns,m3 with
  |_::_::_::_,_=>exact c8 (j:=1) rfl
 have w2:atI (ns.map V.int) 2=some (.int (ns.getD 2 0)):=by
  match ns,m3 with
  |_::_::_::_,_=>exact c8 (j:=2) rfl
 have b0:gL (ns.getD 0 0):=by
  match ns,m3,hb with
  |a::_::_::_,_,hb=>exact hb a (by simp)
 have b1:gL (ns.getD 1 0):=by
  match ns,m3,hb with
  |_::a::_::_,_,hb=>exact hb a (by simp)
 have b2:gL (ns.getD 2 0):=by
  match ns,m3,hb with
  |_::_::a::_,_,hb=>exact hb a (by simp)
 obtain⟨bT,bX,bY,_⟩:=oY c0 c1 c2 b0 b1 b2 ht;have x1:=n8 (dP c1.1 c0.1);have y1:=n8 (dP c1.2 c0.2);have x2:=n8 (dP c2.1 c0.1);have y2:=n8 (dP c2.2 c0.2);have z1:=n8 (dP b1 b0);have z2:=n8 (dP b2 b0);have bT:=Ap bT;have bX:=Ap bX;have bY:=Ap bY;have cx:Big (at' cs 0).1:=by have:=c0.1;exact bv (by lia) (by lia)
 have cy:Big (at' cs 0).2:=by have:=c0.2;exact bv (by lia) (by lia)
 refine⟨_,rfl,l,_,_,_,rfl,rfl,SqL.of hp.1,Dy n3,[_,_,_,_,_,_,_,_],rfl,?_⟩;refine⟨_,rfl,l,_,_,_,rfl,rfl,SqL.of hp.1,vq n3,_,_,_,_,rfl,rfl,SqT.of p1,at0,_,rfl,_,_,_,_,rfl,rfl,SqT.of p0,at0,_,_,rfl,rfl,_,rfl,l,_,_,_,rfl,rfl,SqL.of hp.1,vq n3,_,_,_,_,rfl,rfl,SqT.of p1,at1,_,rfl,_,_,_,_,rfl,rfl,SqT.of p0,at1,_,_,rfl,rfl,_,rfl,w',_,_,_,rfl,rfl,SqL.of hw,w1,_,rfl,w',_,_,_,rfl,rfl,SqL.of hw,w0,_,_,rfl,rfl,aS (show 3<=1000 by decide),fun t1 ht1=>⟨[_,_,_,_,_,_,_,_],rfl,?_⟩⟩
 have s1:=ao ht1 (.tup [V.int ((at' cs 1).1-(at' cs 0).1),V.int ((at' cs 1).2-(at' cs 0).2),V.int (ns.getD 1 0-ns.getD 0 0)]);have q1:(upd H t1 (.tup [V.int ((at' cs 1).1-(at' cs 0).1),V.int ((at' cs 1).2-(at' cs 0).2),V.int (ns.getD 1 0-ns.getD 0 0)])) t1=some (.tup [V.int ((at' cs 1).1-(at' cs 0).1),V.int ((at' cs 1).2-(at' cs 0).2),V.int (ns.getD 1 0-ns.getD 0 0)]):=aj;generalize upd H t1 (.tup [V.int ((at' cs 1).1-(at' cs 0).1),V.int ((at' cs 1).2-(at' cs 0).2),V.int (ns.getD 1 0-ns.getD 0 0)])=H1 at *
 have hp1:=hp.mono s1;have hw1:=s1 _ _ hw;have p0:=hp1.2 0 (by lia)
 have p1:=hp1.2 1 (by lia)
 have p2:=hp1.2 2 (by lia)
 refine⟨_,rfl,l,_,_,_,rfl,rfl,SqL.of hp1.1,vP n3,_,_,_,_,rfl,rfl,SqT.of p2,at0,_,rfl,_,_,_,_,rfl,rfl,SqT.of p0,at0,_,_,rfl,rfl,_,rfl,l,_,_,_,rfl,rfl,SqL.of hp1.1,vP n3,_,_,_,_,rfl,rfl,SqT.of p2,at1,_,rfl,_,_,_,_,rfl,rfl,SqT.of p0,at1,_,_,rfl,rfl,_,rfl,w',_,_,_,rfl,rfl,SqL.of hw1,w2,_,rfl,w',_,_,_,rfl,rfl,SqL.of hw1,w0,_,_,rfl,rfl,aS (show 3<=1000 by decide),fun t2 ht2=>⟨[_,_,_,_,_,_,_,_],rfl,?_⟩⟩
 have s2:=ao ht2 (.tup [V.int ((at' cs 2).1-(at' cs 0).1),V.int ((at' cs 2).2-(at' cs 0).2),V.int (ns.getD 2 0-ns.getD 0 0)]);have q2:(upd H1 t2 (.tup [V.int ((at' cs 2).1-(at' cs 0).1),V.int ((at' cs 2).2-(at' cs 0).2),V.int (ns.getD 2 0-ns.getD 0 0)])) t2=some (.tup [V.int ((at' cs 2).1-(at' cs 0).1),V.int ((at' cs 2).2-(at' cs 0).2),V.int (ns.getD 2 0-ns.getD 0 0)]):=aj;generalize upd H1 t2 (.tup [V.int ((at' cs 2).1-(at' cs 0).1),V.int ((at' cs 2).2-(at' cs 0).2),V.int (ns.getD 2 0-ns.getD 0 0)])=H2 at *
 have hp2:=hp1.mono s2;have hw2:=s2 _ _ hw1;have q1:=s2 _ _ q1;have p0:=hp2.2 0 (by lia)
 have p1:=hp2.2 1 (by lia)
 have p2:=hp2.2 2 (by lia)
 refine⟨_,rfl,_,rfl,l,_,_,_,rfl,rfl,SqL.of hp2.1,vq n3,_,rfl,l,_,_,_,rfl,rfl,SqL.of hp2.1,vP n3,_,_,_,_,_,_,rfl,p0,p1,p2,c0,c1,c2,[_,_,_,_,_,_,_,_],rfl,?_⟩;refine⟨_,rfl,_,_,_,_,rfl,rfl,SqT.of q1,oq,_,rfl,_,_,_,_,rfl,rfl,SqT.of q2,vf,_,_,rfl,rfl,⟨z1,y2⟩,_,rfl,_,_,_,_,rfl,rfl,SqT.of q2,oq,_,rfl,_,_,_,_,rfl,rfl,SqT.of q1,vf,_,_,rfl,rfl,⟨z2,y1⟩,_,_,rfl,rfl,_,rfl,_,_,rfl,rfl,⟨ht,bT⟩,[_,_,_,_,_,_,_,_],rfl,?_⟩;refine⟨_,rfl,_,_,_,_,rfl,rfl,SqT.of q1,vF,_,rfl,_,_,_,_,rfl,rfl,SqT.of q2,oq,_,_,rfl,rfl,⟨x1,z2⟩,_,rfl,_,_,_,_,rfl,rfl,SqT.of q2,vF,_,rfl,_,_,_,_,rfl,rfl,SqT.of q1,oq,_,_,rfl,rfl,⟨x2,z1⟩,_,_,rfl,rfl,_,rfl,_,_,rfl,rfl,⟨ht,bT⟩,[_,_,_,_,_,_,_,_],rfl,?_⟩;refine⟨_,rfl,_,rfl,_,rfl,w',_,_,_,rfl,rfl,SqL.of hw2,w0,_,rfl,_,rfl,_,_,_,_,rfl,rfl,SqT.of p0,at0,_,_,rfl,rfl,⟨bX,cx⟩,_,_,rfl,rfl,_,rfl,_,rfl,_,_,_,_,rfl,rfl,SqT.of p0,at1,_,_,rfl,rfl,⟨bY,cy⟩,_,_,rfl,rfl,aS (show 3<=1000 by decide),fun t3 ht3=>?_⟩
 exact q t3 _ ((s1.trans s2).trans (ao ht3 _)) aj
end
end FD
end
section
namespace FD
open PySem L2 FF
theorem zI{a b c d e g:V}:atI [a,b,c,d,e,g] 0=some a:=rfl
theorem Ay{a b c d e g:V}:atI [a,b,c,d,e,g] 1=some b:=rfl
theorem zB{a b c d e g:V}:atI [a,b,c,d,e,g] 2=some c:=rfl
theorem Ag{a b c d e g:V}:atI [a,b,c,d,e,g] 3=some d:=rfl
theorem t6_4{a b c d e g:V}:atI [a,b,c,d,e,g] 4=some e:=rfl
theorem t6_5{a b c d e g:V}:atI [a,b,c,d,e,g] 5=some g:=rfl
theorem gI{ds:List Pt}{g:Pt->Int}{i:Nat}(h:i<ds.length):(ds.map g).getD i 0=g (at' ds i):=by
 unfold at';rw[Z0,Z0,Zn,Z2 h];rfl
theorem ot{x:Int}:((if x<0 then -x else x)=1)↔(x=1\/x=-1):=by split<;>lia
section
variable{P:Zv}{w:Zl}{K:Z3}{mg:Str->Option Value}{base:ZF}{f:Addr}{fd:Zf}
theorem y6:aD ["points","wanted","across","upward"] ["points","wanted"] (aq sTB):=.mk'
theorem nd_point:(["point"]:List Str).Nodup:=by decide +kernel
theorem Ec(F:Fun K "turning_between" "turning_between" sTB f fd)(cC:Cal P w K mg base 2 "coefficients" ["points","wanted"] yq):aI P w K mg base CX0 3 f fd ["points","wanted"] CI:=by
 refine F.ok y6 (by rintro _ _ _ _⟨_,_,_,_,_,_,rfl,_⟩;rfl) fun E3 A outer s H vs Q E hr h=>?_
 obtain⟨l,rf,cs,w',rg,ds,rfl,hp,co,n3,hd,cd,m3,m4,ht,q⟩:=h;refine⟨_,am (aE (i:=2) y6.nd (ay cC hr (pa2 (pv 0) (fi (bA (N':=["point"]) (own:=1) (ag:=[]) rfl (aO.of (sc:=aq sTB) (N0:=["points","wanted","across","upward"]) rfl rfl (by decide +kernel)) (bp (pv 1)) (fun _ _ _ _ _ _=>(aM (i:=0) nd_point rfl (ZQ rfl))) (fun C cl fp aa s₂ H₂=>bQ) (fun _ _ _ _ _ _=>(ak bG (pv 0) ad))) (pf jC)))))
  (am (aE (i:=3) y6.nd (ay cC hr (pa2 (pv 0) (fi (bA (N':=["point"]) (own:=1) (ag:=[]) rfl (aO.of (sc:=aq sTB) (N0:=["points","wanted","across","upward"]) rfl rfl (by decide +kernel)) (bp (pv 1)) (fun _ _ _ _ _ _=>(aM (i:=0) nd_point rfl (ZQ rfl))) (fun C cl fp aa s₂ H₂=>bQ) (fun _ _ _ _ _ _=>(ak bG (pv 0) ad))) (pf jC)))))
  (ap (aC (b8 (da (ak ax (pv 2) ad) (da (ak ax (pv 2) ad) (pa4 (ak ax (pv 3) ad) (ak ax (pv 3) ad) (ak ax (pv 2) ad) (ak ax (pv 3) ad)))))))),?_⟩
 have c0:=co 0 (by lia)
 have c1:=co 1 (by lia)
 have c2:=co 2 (by lia)
 have d0:=cd 0 (by lia)
 have d1:=cd 1 (by lia)
 have d2:=cd 2 (by lia)
 have k1:=oY c0 c1 c2 d0.1 d1.1 d2.1 ht;have k2:=oY c0 c1 c2 d0.2 d1.2 d2.2 ht;have inm:∀(g:Pt->Int),(∀p,Co p->gL (g p))->∀n,n∈ds.map g->gL n:=fun g hg n hn=>by
  obtain⟨p,hp,rfl⟩:=Y9.mp hn;obtain⟨t,ht,e⟩:=qy hp;rw[<-e];exact hg _ (cd t ht)
 refine⟨_,rfl,w',rg,ds,fun p=>p.1,rfl,hd,m4,(fun k hk H' s' Q' hq=>⟨dC (by decide),_,rfl,_,_,_,_,rfl,rfl,SqT.of (s' _ _ (hd.2 k hk)),at0,hq _ (au.refl _)⟩),fun D H1 s1 hD1=>?_⟩
 refine⟨l,rf,cs,D,ds.map fun p=>p.1,rfl,hp.mono s1,co,n3,hD1,by rw[Z6];exact m3,inm (fun p=>p.1) (fun p h=>h.1),ht,fun ta H2 s2 hta=>⟨[_,_,_,_],rfl,?_⟩⟩
 rw[gI (by lia),gI (by lia),gI (by lia)]at hta
 have s12:=s1.trans s2;have hd2:=hd.mono s12;refine⟨_,rfl,w',rg,ds,fun p=>p.2,rfl,hd2,m4,(fun k hk H' s' Q' hq=>⟨dC (by decide),_,rfl,_,_,_,_,rfl,rfl,SqT.of (s' _ _ (hd2.2 k hk)),at1,hq _ (au.refl _)⟩),fun D3 H3 s3 hD3=>?_⟩
 refine⟨l,rf,cs,D3,ds.map fun p=>p.2,rfl,(hp.mono s12).mono s3,co,n3,hD3,by rw[Z6];exact m3,inm (fun p=>p.2) (fun p h=>h.2),ht,fun tb H4 s4 htb=>⟨[_,_,_,_],rfl,?_⟩⟩
 rw[gI (by lia),gI (by lia),gI (by lia)]at htb
 have hta4:=(s3.trans s4) _ _ hta;refine⟨_,rfl,_,_,_,_,rfl,rfl,SqT.of hta4,vF,_,rfl,_,_,_,_,rfl,rfl,SqT.of hta4,vf,_,rfl,_,_,_,_,rfl,rfl,SqT.of htb,vF,_,rfl,_,_,_,_,rfl,rfl,SqT.of htb,vf,_,rfl,_,_,_,_,rfl,rfl,SqT.of hta4,oq,_,rfl,_,_,_,_,rfl,rfl,SqT.of htb,oq,aS (show 6<=1000 by decide),fun t ht'=>?_⟩
 refine q t _ ((s12.trans (s3.trans s4)).trans (ao ht' _)) aj ?_;have w8:∀{i:Int},Sm (8*10^80) i->Sm (10^200) i:=fun h=>by unfold Sm at *;lia
 have w13:∀{i:Int},Sm (10^130) i->Sm (10^200) i:=fun h=>by unfold Sm at *;lia
 exact⟨w8 k1.2.1,w8 k1.2.2.1,w8 k2.2.1,w8 k2.2.2.1,w13 k1.2.2.2,w13 k2.2.2.2⟩
theorem Ee:aD ["turning"] ["turning"] (aq zH):=.mk'
theorem C5{n:Nat}(F:Fun K "is_turning" "is_turning" zH f fd)(Ew:mg "abs" = none):aI P w K mg base CX0 (n+1) f fd ["turning"] vR:=by
 refine F.ok Ee (by rintro _ _ _ _⟨_,_,rfl,_⟩;rfl) fun E3 A outer s H vs Q E hr h=>?_
 obtain⟨t,T,rfl,hT,bT,q⟩:=h;refine⟨_,ap (aC (fY be (aN gM rfl Ew YV (pa1 (ai bf (ai a8 (ak ax (pv 0) ad) (ak ax (pv 0) ad)) (ai a8 (ak ax (pv 0) ad) (ak ax (pv 0) ad))))) ad)),?_⟩;obtain⟨h1,h2,h3,h4,h5,h6⟩:=bT;refine⟨_,rfl,_,_,_,_,rfl,rfl,SqT.of hT,zI,_,rfl,_,_,_,_,rfl,rfl,SqT.of hT,Ag,_,_,rfl,rfl,⟨eV h1,eV h4⟩,_,rfl,_,_,_,_,rfl,rfl,SqT.of hT,Ay,_,rfl,_,_,_,_,rfl,rfl,SqT.of hT,zB,_,_,rfl,rfl,⟨eV h2,eV h3⟩,_,_,rfl,rfl,_,rfl,rfl,?_⟩;have e:decide (V.int (if T.a*T.d-T.b*T.c<0 then -(T.a*T.d-T.b*T.c) else T.a*T.d-T.b*T.c)=V.int 1)=isT T:=by
  unfold isT Tn.det;rw[W0,<-ot];constructor
  ·intro h;injection h
  ·intro h;rw[h]
 rw[e];exact q
theorem oD:aD ["point","turning","x","y"] ["point","turning"] (aq sg):=.mk'
theorem yV{n:Nat}(F:Fun K "led_point" "led_point" sg f fd):aI P w K mg base CX0 (n+1) f fd ["point","turning"] um:=by
 refine F.ok oD (by rintro _ _ _ _⟨_,_,_,_,rfl,_⟩;rfl) fun E3 A outer s H vs Q E hr h=>?_
 obtain⟨tu,pt,T,p,rfl,hT,hP,bT,cP,q⟩:=h;refine⟨_,am (aE (i:=2) oD.nd (ai a_ (ai a_ (ai a8 (ak ax (pv 1) ad) (ak ax (pv 0) ad)) (ai a8 (ak ax (pv 1) ad) (ak ax (pv 0) ad))) (ak ax (pv 1) ad)))
  (am (aE (i:=3) oD.nd (ai a_ (ai a_ (ai a8 (ak ax (pv 1) ad) (ak ax (pv 0) ad)) (ai a8 (ak ax (pv 1) ad) (ak ax (pv 0) ad))) (ak ax (pv 1) ad)))
  (ap (aC (dW (pa2 (pv 2) (pv 3)))))),?_⟩
 obtain⟨h1,h2,h3,h4,h5,h6⟩:=bT;have x1:Big p.1:=bv (by have:=cP.1;lia) (by have:=cP.1;lia)
 have x2:Big p.2:=bv (by have:=cP.2;lia) (by have:=cP.2;lia)
 refine⟨_,rfl,_,_,_,_,rfl,rfl,SqT.of hT,zI,_,rfl,_,_,_,_,rfl,rfl,SqT.of hP,at0,_,_,rfl,rfl,⟨eV h1,x1⟩,_,rfl,_,_,_,_,rfl,rfl,SqT.of hT,Ay,_,rfl,_,_,_,_,rfl,rfl,SqT.of hP,at1,_,_,rfl,rfl,⟨eV h2,x2⟩,_,_,rfl,rfl,_,rfl,_,_,_,_,rfl,rfl,SqT.of hT,t6_4,_,_,rfl,rfl,[_,_,_,_],rfl,?_⟩;refine⟨_,rfl,_,_,_,_,rfl,rfl,SqT.of hT,zB,_,rfl,_,_,_,_,rfl,rfl,SqT.of hP,at0,_,_,rfl,rfl,⟨eV h3,x1⟩,_,rfl,_,_,_,_,rfl,rfl,SqT.of hT,Ag,_,rfl,_,_,_,_,rfl,rfl,SqT.of hP,at1,_,_,rfl,rfl,⟨eV h4,x2⟩,_,_,rfl,rfl,_,rfl,_,_,_,_,rfl,rfl,SqT.of hT,t6_5,_,_,rfl,rfl,[_,_,_,_],rfl,?_⟩;exact⟨_,rfl,_,rfl,_,_,rfl,fun t H' s' h'=>q t H' s' h'⟩
theorem C8:aD ["points","turning"] ["points","turning"] (aq qq):=.mk'
theorem lW:(["point","turning"]:List Str).Nodup:=by decide +kernel
theorem Cc(F:Fun K "led" "led" qq f fd)(cL:Cal P w K mg base 1 "led_point" ["point","turning"] um):aI P w K mg base CX0 2 f fd ["points","turning"] tw:=by
 refine F.ok C8 (by rintro _ _ _ _⟨_,_,_,_,_,rfl,_⟩;rfl) fun E3 A outer s H vs Q E hr h=>?_
 obtain⟨l,rf,cs,tu,T,rfl,hp,co,n4,hT,bT,q⟩:=h;refine⟨_,ap (aC (fi (bA (N':=["point","turning"]) (own:=1) (ag:=[1]) rfl (aO.of (sc:=aq qq) (N0:=["points","turning"]) rfl rfl (by decide +kernel)) (bp (pv 0)) (fun _ _ _ _ _ _=>(aM (i:=0) lW rfl (ZQ rfl))) (fun C cl fp aa s₂ H₂=>bQ) (fun _ _ _ _ _ _=>(ay cL hr (pa2 (pv 0) (pv 1))))) (rM jC))),?_⟩
 exact⟨l,rf,cs,T.led,rfl,hp,n4,(fun k hk H' s' Q' hq=>⟨dC (by decide),_,rfl,_,rfl,tu,_,T,_,rfl,s' _ _ hT,s' _ _ (hp.2 k hk),bT,co k hk,fun t H4 s4 h4=>hq t H4 s4 h4⟩),fun D rg H' s' h'=>q D rg H' s' h'⟩
end
end FD
end
section
namespace FD
open PySem L2 FF
theorem Du{L w:List Pt}(h:L.length=w.length):((Z4 L.length).all fun j=>decide ((at' L j).1=(at' w j).1/\(at' L j).2=(at' w j).2))=decide (L=w):=by
 rw[ZS,Yt,decide_eq_true_eq];constructor
 ·intro k;refine XY h fun i h1 h2=>?_
  have:=Zx (k i (Zy.mpr h1))
  unfold at' at this;rw[Z0,Z0,Z2 h1,Z2 h2]at this;exact YT this.1 this.2
 ·rintro rfl j hj;exact Zt ⟨rfl,rfl⟩
noncomputable def dZ(cs:List Pt)(i:Nat):List Pt:=if i<cs.length then dY cs i else dY cs.reverse (i-cs.length)
theorem pN(cs:List Pt)(i:Nat):wt (dZ cs i) cs:=by
 unfold dZ
 split
 ·exact .inl (kI _ _)
 ·exact .inr (kI _ _)
theorem aJ.rev{cs:List Pt}(h:aJ cs):aJ cs.reverse:=fun i hi=>by
 obtain⟨t,ht,e⟩:=qy (Wb.mp (b7 hi));rw[<-e];exact h t ht
noncomputable def uC:Sp:=fun vs H Q _=>∃a b ra rb one other,vs=[.ref a,.ref b]/\PLs H a ra one/\PLs H b rb other/\aJ one/\aJ other/\aF one/\aF other/\(∀H',au H H'->Q .non H')/\∀t H',au H H'->Q (.ref t) H'
section
variable{P:Zv}{w:Zl}{K:Z3}{mg:Str->Option Value}{base:ZF}{f:Addr}{fd:Zf}
theorem ir:aD ["one","other","bent","wanted","turning"] ["one","other"] (aq kX):=.mk'
theorem qM(F:Fun K "alike" "alike" kX f fd)(cB:Cal P w K mg base 2 "bent_first" ["corners"] xf)(cI:Cal P w K mg base 1 "is_turning" ["turning"] vR)(cL:Cal P w K mg base 2 "led" ["points","turning"] tw)(cF:Cal P w K mg base 6 "refuse_no_fence" ["corners"] eQ)(cR:Cal P w K mg base 1 "rotations" ["corners"] ja)(cT:Cal P w K mg base 3 "turning_between" ["points","wanted"] CI)(E5:mg "len" = none)(E9:mg "list" = none)(E8:mg "reversed" = none):aI P w K mg base CX0 7 f fd ["one","other"] uC:=by
 refine F.ok ir (by rintro _ _ _ _⟨_,_,_,_,_,_,rfl,_⟩;rfl) fun E3 A outer s H vs Q E hr h=>?_
 obtain⟨a,b,ra,rb,one,other,rfl,ha,hb,ca,cb,fa,fb,qn,qs⟩:=h;have hu0:=hr.un;have hu2:A.units+3+5<cLine:=by have:A.units+3+16*6+200<cLine:=hu0;lia
 refine⟨_,am (aV (ay cF hr (pa1 (pv 0))))
  (am (aV (ay cF hr (pa1 (pv 1))))
  (am (aZ (aQ iS (aN aW rfl E5 ZJ (pa1 (pv 0))) (aN aW rfl E5 ZJ (pa1 (pv 1)))) (ap (aC xX)) aL)
  (am (aE (i:=2) ir.nd (ay cB hr (pa1 (pv 0))))
  (am (gU Yb rfl (bp (ai dL (ay cR hr (pa1 (pv 1))) (ay cR hr (pa1 (fi (ic rfl rfl E9 rfl E8 (pa1 (pv 1))) kN))))) (aM (i:=3) ir.nd rfl (ZQ rfl)) (am (aE (i:=4) ir.nd (ay cT hr (pa2 (pv 2) (pv 3))))
   (ap (aZ (PW.pt (gG (c7 (ay cI hr (pa1 (pv 4)))) (fN (aQ (wG hu2) (ay cL hr (pa2 (pv 2) (pv 4))) (pv 3))))) (ap (aC (pv 4))) aL))))
  (ap (aC xX)))))),?_⟩
 have a3:=fa.lo;have a12:=fa.hi;have b3:=fb.lo;have b12:=fb.hi;refine⟨_,rfl,a,ra,one,rfl,ha,ca,fa,fun H1 s1=>⟨[_,_,_,_,_],rfl,?_⟩⟩;refine⟨_,rfl,b,rb,other,rfl,hb.mono s1,cb,fb,fun H2 s2=>⟨[_,_,_,_,_],rfl,?_⟩⟩;have s12:=s1.trans s2;refine⟨_,rfl,a,_,rfl,.inl (SqL.of (ha.mono s12).1),_,rfl,b,_,rfl,.inl (SqL.of (hb.mono s12).1),rfl,_,rfl,?_⟩;rw[av,av];refine aU (fun c=>?_) (fun c=>⟨[_,_,_,_,_],rfl,?_⟩)
 ·exact qn H2 s12
 have le:one.length=other.length:=by
  apply Z9;intro z;apply c;simp only[ne_eq,V.int.injEq,decide_eq_true_eq,Yr,decide_eq_false_iff_not]at *
  lia
 refine⟨_,rfl,a,ra,one,rfl,ha.mono s12,ca,fa,fun r rg bt H3 s3 hbt rot hturn=>⟨[_,_,_,_,_],rfl,?_⟩⟩;have s13:=s12.trans s3;have bl:bt.length=one.length:=rot.len;have cbt:aJ bt:=ca.rot rot;refine⟨_,rfl,b,rb,other,rfl,hb.mono s13,by lia,fun r1 H4 s4 hR1=>?_⟩
 have s14:=s13.trans s4;refine⟨b,rb,other,rfl,hb.mono s14,fun l5 rg5 H5 s5 h5=>⟨l5,rg5,other.reverse,rfl,h5,by rw[Ze];lia,fun r2 H6 s6 hR2=>?_⟩⟩
 have s46:=s5.trans s6;obtain⟨ts1,rg1,ES,hr1⟩:=hR1.mono s46;obtain⟨ts2,rg2,Fj,hr2⟩:=hR2;rw[Ze]at Fj hr2;refine⟨r1,r2,_,_,rfl,rfl,ES,Fj,by rw[av,av];exact aS (by lia),fun r7 hr7=>?_⟩
 have s7:=ao hr7 (.lst (aw other.length ts1++aw other.length ts2));have q7:(upd H6 r7 (.lst (aw other.length ts1++aw other.length ts2))) r7=some (.lst (aw (other.length+other.length) (fun i=>if i<other.length then ts1 i else ts2 (i-other.length)))):=by rw[aj,sf]
 generalize upd H6 r7 (.lst (aw other.length ts1++aw other.length ts2))=H7 at *
 obtain⟨ts,ets⟩:∃ts:Nat->Addr,ts=fun i=>if i<other.length then ts1 i else ts2 (i-other.length):=⟨_,rfl⟩
 rw[<-ets]at q7;have hrow:∀i,i<other.length+other.length->∃rgi,PLs H7 (ts i) rgi (dZ other i):=fun i hi=>by
  rw[ets];unfold dZ;show ∃rgi,PLs H7 (if i<other.length then ts1 i else ts2 (i-other.length)) rgi _
  by_cases c:i<other.length
  ·rw[if_pos c,if_pos c];exact⟨_,(hr1 i c).mono s7⟩
  ·rw[if_neg c,if_neg c];exact⟨_,(hr2 (i-other.length) (by lia)).mono s7⟩
 have s37:=(s4.trans s46).trans s7;have hbt7:=hbt.mono s37;have s17:=s13.trans s37;clear hr1 hr2 ES Fj;refine⟨r7,rfl,⟨_,SqL.of q7⟩,?_⟩;refine rP (xs:=aw (other.length+other.length) ts) (fun i σ H'=>∃v3 v4,σ=[some (.ref a),some (.ref b),some (.ref r),v3,v4]/\au H7 H')
  ⟨none,none,rfl,au.refl H7⟩ ?_ ?_ ?_
 ·rintro i σ H' hi ⟨v3,v4,rfl,sH⟩;exact SqL.of (sH _ _ q7)
 ·rintro i x σ H' hx ⟨v3,v4,rfl,sH⟩;obtain⟨hi,rfl⟩:=bN hx;obtain⟨rgi,hw⟩:=hrow i hi;have hw:=hw.mono sH;have hbt':=hbt7.mono sH;have wl:(dZ other i).length=other.length:=(pN other i).len;have cw:aJ (dZ other i):=by
   rcases pN other i with z|z
   ·exact cb.rot z
   ·exact (cb.rev).rot z
  refine⟨_,rfl,_,rfl,r,rg,bt,ts i,rgi,dZ other i,rfl,hbt',cbt,by lia,hw,cw,by lia,by lia,hturn,fun t H8 s8 hT bT=>⟨[_,_,_,_,_],rfl,?_⟩⟩
  refine⟨_,rfl,t,_,rfl,hT,bT,_,rfl,?_⟩;refine aU (fun c1=>?_) (fun c1=>?_);rotate_left
  ·exact⟨_,_,rfl,sH.trans s8⟩
  refine⟨_,rfl,_,rfl,r,rg,bt,t,_,rfl,hbt'.mono s8,cbt,by lia,hT,bT,fun r9 rg9 H9 s9 h9=>?_⟩
  have hw9:=hw.mono (s8.trans s9);have ml:(bt.map (tbT (at' bt 0) (at' bt 1) (at' bt 2) (at' (dZ other i) 0) (at' (dZ other i) 1) (at' (dZ other i) 2)).led).length=(dZ other i).length:=by rw[Z6];lia
  have ae:=Du ml;generalize hmm:bt.map (tbT (at' bt 0) (at' bt 1) (at' bt 2) (at' (dZ other i) 0) (at' (dZ other i) 1) (at' (dZ other i) 2)).led=mm at *
  refine⟨_,rfl,r9,ts i,_,_,rfl,rfl,SqL.of h9.1,SqL.of hw9.1,.inr ⟨by rw[av,av];exact ml,fun j=>decide ((at' mm j).1=(at' (dZ other i) j).1/\(at' mm j).2=(at' (dZ other i) j).2),fun j x y hx hy=>?_,?_⟩⟩
  ·obtain⟨hj,rfl⟩:=bN hx;obtain⟨hj2,rfl⟩:=bN hy;exact Cmp.pt (SqT.of (h9.2 j hj)) (SqT.of (hw9.2 j hj2))
  rw[av,if_neg Zm,ae];refine⟨_,rfl,?_⟩;refine aU (fun c2=>?_) (fun c2=>?_)
  ·exact⟨_,rfl,qs t H9 (s17.trans (sH.trans (s8.trans s9)))⟩
  ·exact⟨_,_,rfl,sH.trans (s8.trans s9)⟩
 ·rintro σ H' ⟨v3,v4,rfl,sH⟩;exact⟨[_,_,_,_,_],rfl,qn H' (s17.trans sH)⟩
end
end FD
end
section
namespace L2
open PySem PySem.Spec PyProof.Rows
section
variable{X:Cx}
end
end L2
end
section
namespace L2
open PySem PySem.W PySem.Spec PyProof.Rows
noncomputable def CX1(P:Zv)(w:Zl)(base:ZF):CXT:=fun outer H s E e s'=>∃(ea:Addr) (cls a0:Value) (H':Hp),e=.ref ea/\s'.os=s.os/\Wa s'.gens/\Un (frs outer) [] H H' s.heap s'.heap/\HOk P w H' s'.heap/\(∃B:ZF,base.StaysIn B/\WR B outer ea cls a0 s'.heap/\(∀b o,s.heap.get? b=some o->b∉frs outer->∃o',B.get? b=some o')/\∀b u,H' b=some u->∃o',B.get? b=some o')/\s.heap.get? ea=none/\H' ea=none/\E cls none H'
theorem bF.there{P:Zv}{w:Zl}{H:Hp}{h:ZF}{a:Addr}{o:HO}(x:bF P w H h a o):∃ob,h.get? a=some ob:=by
 cases o with
 |lst xs=>obtain⟨_,_,_,_,e⟩:=x;exact⟨_,e⟩
 |tup xs=>obtain⟨_,_,_,ob,e,_⟩:=x;exact⟨_,e⟩
 |dK D'=>obtain⟨_,_,_,_,o,_,_,e,_⟩:=x;exact⟨_,e⟩
 |dT D'=>obtain⟨_,_,_,_,o,_,_,e,_⟩:=x;exact⟨_,e⟩
 |set S n=>obtain⟨o,_,_,_,e,_⟩:=x;exact⟨_,e⟩
 |ins C dx fs=>obtain⟨_,_,_,e,_⟩:=x;exact⟨_,e⟩
 |own y=>obtain⟨_,e⟩:=x;exact⟨_,e⟩
 |xd fs=>obtain⟨_,⟨_,_,_,e,_⟩,_⟩:=x;exact⟨_,e⟩
 |rng lo hi=>obtain⟨_,_,_,e⟩:=x;exact⟨_,e⟩
 |frz ob u=>obtain⟨e,_⟩:=x;exact⟨_,e⟩
 |tbl ps=>exact⟨_,(show h.get? a=some _ from x)⟩
 |met f y=>exact⟨_,(show h.get? a=some _ from x)⟩
 |ext φ=>obtain⟨_,⟨_,e⟩,_⟩:=x;exact⟨_,e⟩
section
variable{P:Zv}{w:Zl}{K:Z3}{mg:Str->Option Value}{base:ZF}{N:List Str}{qual:Str}{scope:XQ}{f:Addr}{cd:Value}{A:ZK}{outer:List Env}{s₀:Shared}{H₀:Hp}{E:XK}
theorem qV{aa:List (Addr×Obj)}{σ:St}{H:Hp}{s:Shared}{h1:ZF}{e:Addr}{cls:Value}{args:List Value}(I:Inv (fQ (CX1 P w base) P w K mg base N qual scope f cd A outer s₀ H₀ E) aa σ H s)
  (hx:T9 s.heap h1 e cls args)(q:E cls none H):(fQ (CX1 P w base) P w K mg base N qual scope f cd A outer s₀ H₀ E).xe (.ref e) {s with heap:=h1}:=by
 have stk:s.heap.FunFrames base (envOfC qual scope s₀.heap.objs.size f cd::outer):=I.stack;refine wpAny_leaves_madeW (base:=hideAll s.heap (frs (envOfC qual scope s₀.heap.objs.size f cd::outer))) (h:=s.heap) (L:=s₀.heap.objs.size) I.ok.frames rfl (fun b o e=>of_hideAll _ e) (T_ stk fun env he a ea=>XA.mpr ⟨env,he,ea⟩) hx fun h' t fl tup tn ups=>?_;have out:∀b o,s.heap.get? b=some o->b∉frs (envOfC qual scope s₀.heap.objs.size f cd::outer)->h'.get? b=some o:=fun b o e hb=>fl.1 b o (Wu _ e hb);have Lfr:∀b o,s₀.heap.get? b=some o->b∉frs outer->b∉frs (envOfC qual scope s₀.heap.objs.size f cd::outer):=fun b o e hb hm=>by
  have hm:b∈s₀.heap.objs.size::frs outer:=hm;rcases Zz.mp hm with z|z
  ·exact absurd (Z_ e) (by rw[z];exact Nat.lt_irrefl _)
  ·exact hb z
 have slots:∀b o,s.heap.get? b=some o->b∈frs (envOfC qual scope s₀.heap.objs.size f cd::outer)->∃sl,h'.get? b=some {o with slots:=sl}:=fun b o e hm=>by
  obtain⟨_,o',EB,nf⟩:=stk.mem hm;rw[e]at EB;cases EB;exact ups b o (hx.keeps b o e) nf
 have ub:Un (frs outer) [] H₀ H s₀.heap s.heap:=I.base;have nfr:∀b u,H b=some u->b∉frs (envOfC qual scope s₀.heap.objs.size f cd::outer):=fun b u e hm=>by
  have:=I.stkFree b hm
  rw[e]at this;cases this
 refine⟨e,cls,.ref t,H,rfl,I.os,I.bare,⟨fun b o eb n hb hx'=>?_,fun b o eb n hb hx'=>?_,ub.free,fun b o eb hx'=>?_,ub.tups,ub.frzs,ub.tbls⟩,fun a o ea=>?_,⟨_,fun b o eb=>?_,fl,fun b o eb hb=>?_,fun b u eb=>?_⟩,?_,?_,q⟩
 ·exact out b o (ub.keep b o eb n hb hx') (Lfr b o eb hb)
 ·obtain⟨sl,h2⟩:=ub.slot b o eb n hb hx';obtain⟨sl',h3⟩:=slots b _ h2 (Zo _ hb);exact⟨sl',h3⟩
 ·obtain⟨o',h2⟩:=ub.there b o eb hx';by_cases hb:b∈frs (envOfC qual scope s₀.heap.objs.size f cd::outer)
  ·obtain⟨sl,h3⟩:=slots b o' h2 hb;exact⟨_,h3⟩
  ·exact⟨_,out b o' h2 hb⟩
 ·refine (I.hok a o ea).stay (fun b u hb eb=>out b u eb ?_) (fun _ z=>z) fun _ _ z=>z;rcases hb with z|z
  ·rw[z];exact nfr a o ea
  ·exact nfr b _ z
 ·refine Wu _ (I.bs b o eb).1 fun hm=>?_
  have:=(stk.mem hm).1
  rw[eb]at this;cases this
 ·obtain⟨o',h2⟩:=ub.there b o eb (by simp)
  exact⟨o',Wu _ h2 (Lfr b o eb hb)⟩
 ·obtain⟨o',h2⟩:=(I.hok b u eb).there;exact⟨o',Wu _ h2 (nfr b u eb)⟩
 ·cases z:s₀.heap.get? e with
  |none=>rfl
  |some o=>
   obtain⟨o',h2⟩:=ub.there e o z (by simp)
   rw[hx.new]at h2;cases h2
 ·cases z:H e with
  |none=>rfl
  |some u=>
   obtain⟨o',h2⟩:=(I.hok e u z).there;rw[hx.new]at h2;cases h2
end
end L2
end
section
namespace L2
open PySem PySem.W PySem.Spec PyProof.Rows
structure oQ(base:ZF)(C:Addr)(bm FA:List Value)(newId:String):Prop where
 at_:∃(nm q:Str) (N:Addr) (bs:List Value) (hdct:Bool) (sn:List Str) (sub:List Value) (ab:Bool) (col:Option Bool) (dd:Option Addr) (k0 k1 k2 k3 k5:Option Value) (mN:Str->Option Value),
  base.get? C=some (excClassObj nm q C N bs bm hdct sn sub ab col dd k0 k1 k2 k3 k5 newId)/\base.Ns N mN/\mN "__init__" = none
 tail:OwnTail base FA bm
noncomputable def my(X:Cx)(R:Value->Hp->Prop):Prop:=∀(aa:List (Addr×Obj)) (σ:St) (H:Hp) (s:Shared) (h1:ZF) (e:Addr) (cls:Value) (args:List Value),Inv X aa σ H s->T9 s.heap h1 e cls args->R cls H->X.xe (.ref e) {s with heap:=h1}
noncomputable def w_(t:TA)(C:Addr)(R:Value->Hp->Prop):TS:=fun _ σ H=>t σ H fun vs H1=>vs.length<=sizeLine/\R (.ref C) H1
section
variable{X:Cx}
theorem zR{x:Str}{C:Addr}{bm FA bmN:List Value}{B Bn newId nid initId inN:String}{e₀:ZN}{es:List ZN}{np Et pos:Pos}{t:TA}{R:Value->Hp->Prop}(hc:X.calm=true)(hg:Gl X x)(hm:X.mg x=some (.ref C))(O:oQ X.base C bm FA newId)
  (Fn:S8 Bn newId inN bmN)(hBn:FA.contains (.type Bn)=true)(F:S8 B nid initId FA)(hR:my X R)(ha:PA X (e₀::es) t)(EL:(x==("__debug__" : Str))=false:=by decide)
  (he:Zp (e₀::es) X.env=(false,eval e₀ X.env)::Zp es X.env:=by rfl)(EC:(backTo Et (Zp es X.env)).any (·.1)=false:=by rfl):
  PS X (.Raise (some (.Call (.Name x np) (e₀::es) [] Et)) none pos) (w_ t C R):=by
 intro aa s σ H D I h;obtain⟨nm,q,N,bs,hdct,sn,sub,ab,col,dd,k0,k1,k2,k3,k5,mN,hC,hN,hni⟩:=O.at_;refine wpAny_Raise_call_subU (C:=C) (nm:=nm) (q:=q) (N:=N) (bs:=bs) (bm:=bm) (hdct:=hdct) (sn:=sn) (sub:=sub) (ab:=ab) (col:=col) (dd:=dd) (k0:=k0) (k1:=k1) (k2:=k2) (k3:=k3) (k5:=k5)
  Fn hBn F (mN:=mN) (O.tail.hasType F.hasBase) (I.ok.hd hc) (by rw[he];show (false||(backTo Et (Zp es X.env)).any (·.1))=false;rw[EC];rfl) hni (iq I hg hm ⟨rfl,?_⟩ EL)
 have hA:=ha Et aa s σ H _ I h;rw[he]at hA ⊢;exact VW (Y0 hA (fun us s1 ⟨vs,H1,I1,r,z,q⟩=>⟨rfl,by rw[<-r.length];exact z,I1.bk _ _ hC,hN.keeps I1.bk,O.tail.keeps I1.bk,fun h' e hm=>hR aa σ H1 s1 h' e _ _ I1 hm q⟩) fun _ _ y=>y)
end
theorem jg{P:Zv}{w:Zl}{K:Z3}{mg:Str->Option Value}{base:ZF}{N:List Str}{qual:Str}{scope:XQ}{f:Addr}{cd:Value}{A:ZK}{outer:List Env}{s₀:Shared}{H₀:Hp}{E:XK}:
  my (fQ (CX1 P w base) P w K mg base N qual scope f cd A outer s₀ H₀ E) fun cls H=>E cls none H:=fun _ _ _ _ _ _ _ _ I hx q=>qV I hx q
end L2
end
section
namespace L2
open PySem PySem.W PySem.Spec PyProof.Rows
section
variable{X:Cx}{aa:List (Addr×Obj)}{σ:List (Option V)}{H H':Hp}{s:Shared}{h':ZF}
theorem Inv.stepN{g':Array Wt}{t':Nat}{d':Drawn}{ch:List Addr}(I:Inv X aa σ H s)
  (F7:∀b∈ch,X.s₀.heap.get? b=none/\b≠X.env.locals/\(∀x c,X.env.cells.lookup x=some c->c≠b)/\∀p∈X.pn++aa,p.1≠b)
  (keep:∀b o,b≠X.env.locals->b∉X.fs->b∉ch->s.heap.get? b=some o->H b=none->h'.get? b=some o)
  (slot:∀b o,b≠X.env.locals->b∈X.fs->b∉ch->s.heap.get? b=some o->H b=none->∃sl,h'.get? b=some {o with slots:=sl})(free:∀b o,b∉ch->s.heap.get? b=some o->H b=none->H' b=none)
  (there:∀b o,b∉ch->s.heap.get? b=some o->∃o',h'.get? b=some o')
  (tups:∀b xs,H b=some (.tup xs)->H' b=some (.tup xs))(frzs:∀b o u,H b=some (.frz o u)->H' b=some (.frz o u))(tbls:∀b ps,H b=some (.tbl ps)->∃more,H' b=some (.tbl (ps++more)))
  (ns:∀m,s.heap.Ns X.env.locals m->h'.Ns X.env.locals m)(hok:HOk X.prog X.w H' h')(hg:Wa g'):
  Inv X aa σ H' {s with heap:=h',gens:=g',drawn:=d',toks:=t'}:=by
 have neL:∀b o,X.s₀.heap.get? b=some o->b≠X.env.locals:=fun b o e=>Nat.ne_of_lt (Nat.lt_of_lt_of_le (Z_ e) I.ok.above);have neC:∀b o,X.s₀.heap.get? b=some o->b∉X.ex->b∉ch:=fun b o e hx hb=>by
  have z:=(F7 b hb).1;rw[e]at z;cases z
 have cellK:∀x c,X.env.cells.lookup x=some c->∀v,s.heap.IsCell c v->h'.IsCell c v:=fun x c e v ⟨o,ho,hd⟩=>by
  have nch:c∉ch:=fun z=>(F7 c z).2.2.1 x c e rfl;by_cases hc:c∈X.fs
  ·obtain⟨sl,q⟩:=slot c o (I.cne x c e) hc nch ho (I.freeC x c e);exact⟨_,q,hd⟩
  ·exact⟨o,keep c o (I.cne x c e) hc nch ho (I.freeC x c e),hd⟩
 refine⟨I.ok,I.os,hg,⟨fun b o e n hb hx=>?_,fun b o e n hb hx=>?_,fun b o e n hx=>?_,fun b o e hx=>?_,fun b xs e=>tups b xs (I.base.tups b xs e),fun b o xs e=>frzs b o xs (I.base.frzs b o xs e),fun b ps e=>?_⟩,?_,fun x c e=>?_,?_,fun x c e=>?_,fun p hp=>?_,hok,I.len⟩
 ·exact keep b o (neL b o e) hb (neC b o e hx) (I.base.keep b o e n hb hx) (I.base.free b o e n hx)
 ·obtain⟨sl,e1⟩:=I.base.slot b o e n hb hx;obtain⟨sl',e2⟩:=slot b _ (neL b o e) hb (neC b o e hx) e1 (I.base.free b o e n hx);exact⟨sl',e2⟩
 ·obtain⟨o',e1⟩:=I.base.there b o e hx;exact free b o' (neC b o e hx) e1 (I.base.free b o e n hx)
 ·obtain⟨o',e1⟩:=I.base.there b o e hx;exact there b o' (neC b o e hx) e1
 ·obtain⟨m1,e1⟩:=I.base.tbls b ps e;obtain⟨m2,e2⟩:=tbls b _ e1;exact⟨m1++m2,by rw[e2,Ut]⟩
 ·obtain⟨m,hn,hl⟩:=I.loc;refine⟨m,ns m hn,fun i x v e1 e2 e3=>?_⟩;obtain⟨u,r,l⟩:=hl i x v e1 e2 e3;refine⟨u,r,?_⟩;rcases l with l|⟨k,c,e,z⟩
  ·exact .inl l
  ·exact .inr ⟨k,c,e,cellK x c e _ z⟩
 ·obtain⟨v,z⟩:=I.cell x c e;exact⟨v,cellK x c e v z⟩
 ·obtain⟨m,⟨o,_,_,ho,_⟩,_⟩:=I.loc;exact free _ o (fun z=>(F7 _ z).2.1 rfl) ho I.free
 ·obtain⟨v,o,ho,hd⟩:=I.cell x c e;exact free c o (fun z=>(F7 c z).2.2.1 x c e rfl) ho (I.freeC x c e)
 ·obtain⟨e,n,ne,nf,d⟩:=I.pin p hp;have nch:p.1∉ch:=fun z=>(F7 p.1 z).2.2.2 p hp rfl;exact⟨keep p.1 p.2 ne nf nch e n,free p.1 p.2 nch e n,ne,nf,d⟩
end
end L2
end
section
namespace L2
open PySem PySem.W PySem.Spec PyProof.Rows
section
variable{X:Cx}{aa:List (Addr×Obj)}{σ:St}{H:Hp}{s:Shared}
end
end L2
end
section
namespace L2
open PySem PySem.W PySem.Spec PyProof.Rows
noncomputable def jf(ea:Addr)(cls:Value):HO:=.ext fun h=>∃oe,h.get? ea=some oe/\oe.cls=cls
section
variable{X:Cx}{aa:List (Addr×Obj)}{σ:St}{H:Hp}{s s':Shared}
theorem oZ{B h:ZF}{l:List Env}{ea:Addr}{cls a0:Value}(f:WR B l ea cls a0 h):∃T oT ts,h.get? T=some oT/\oT.data=.fields ts/\B.get? T=none/\T≠ea/\WR (hideAll h (ea::T::frs l)) l ea cls a0 h:=by
 obtain⟨f1,f2,f3,oe,vs,T,oT,ts,he,hc,hd,h1,hT0,hTe,hT,hdT,h3⟩:=f;refine⟨T,oT,ts,hT,hdT,hT0,hTe,fun b o e=>of_hideAll _ e,S9 _ (by simp),T_ f3 fun env he a ea'=>Zo _ (Zo _ (XA.mpr ⟨env,he,ea'⟩)),oe,vs,T,oT,ts,he,hc,hd,h1,S9 _ (by simp),hTe,hT,hdT,h3⟩
noncomputable def AZ(X:Cx)(aa:List (Addr×Obj))(b:Addr):Prop:=X.s₀.heap.get? b=none/\b≠X.env.locals/\(∀x c,X.env.cells.lookup x=some c->c≠b)/\∀p∈X.pn++aa,p.1≠b
theorem DW{E:XK}{e:Value}{Q:Unit->Shared->Prop}{E':Value->Shared->Prop}(I:Inv X aa σ H s)(hex:X.ex=[])(EA:frs X.stack=X.env.locals::X.fs)(hs:X.stack=X.env::X.outer)(hf:X.env.frame=some X.env.locals)(FY:CX1 X.prog X.w X.base X.stack H s E e s')
  (k:∀ea cls a0 H' h3 B,e=.ref ea->E cls none H'->H' ea=none->Inv X aa σ (upd H' ea (jf ea cls)) {s' with heap:=h3}->WR B X.stack ea cls a0 h3->AZ X aa ea->(∀T oT ts,h3.get? T=some oT->oT.data=.fields ts->B.get? T=none->T≠ea->AZ X aa T/\upd H' ea (jf ea cls) T=none)->Q () {s' with heap:=h3}):
  Zq (model X.prog X.w) X.A (noteFrame e X.env) (fun _ s₂=>Zq (model X.prog X.w) X.A (setFlight e none) Q E' s₂) E' s':=by
 obtain⟨ea,cls,a0,H',rfl,hos,hbare,un,hok,⟨B,hB,fl,hsub,htr⟩,EM,hH,hE⟩:=FY;have I1:Inv X aa σ H' s':=I.call' (ch:=[]) hos un hok hbare (fun b hb=>absurd hb (by simp))
 obtain⟨T,oT,ts,hT,hdT,hBT,hTe,flB⟩:=oZ fl;have sT:s.heap.get? T=none:=by
  cases z:s.heap.get? T with
  |none=>rfl
  |some o=>
   by_cases hm:T∈frs X.stack
   ·obtain⟨_,o',EB,nf⟩:=I1.stack.mem hm;rw[hT]at EB;cases EB;exact absurd hdT (nf ts)
   ·obtain⟨o',z'⟩:=hsub T o z hm;rw[hBT]at z';cases z'
 have new:∀b,s.heap.get? b=none->X.s₀.heap.get? b=none/\b≠X.env.locals/\(∀x c,X.env.cells.lookup x=some c->c≠b)/\∀p∈X.pn++aa,p.1≠b:=fun b hb=>by
  refine⟨?_,fun z=>?_,fun x c ec z=>?_,fun p hp z=>?_⟩
  ·cases z:X.s₀.heap.get? b with
   |none=>rfl
   |some o=>
    obtain⟨o',z'⟩:=I.base.there b o z (by rw[hex];simp)
    rw[hb]at z';cases z'
  ·obtain⟨m,⟨o,es,ep,ho,_⟩,_⟩:=I.loc;rw[<-z,hb]at ho;cases ho
  ·obtain⟨v,o,ho,_⟩:=I.cell x c ec;rw[z,hb]at ho;cases ho
  ·have:=(I.pin p hp).1
   rw[z,hb]at this;cases this
 have frames:X.A.frames=some (X.env::X.outer):=by rw[<-hs];exact I.ok.frames
 rw[hs]at flB;refine wpAny_looks_onW frames hf flB fun h2 held ups=>wpAny_landsW held fun h3 fl3 ups3=>?_;have ups:=ups.trans ups3;rw[<-hs]at fl3;have out:∀b o,s'.heap.get? b=some o->b∉frs X.stack->b∉[ea,T]->h3.get? b=some o:=fun b o eb h1 h2=>fl3.1 b o (Wu _ eb (by
  intro z;simp only[Zz,Zr,or_false,W6]at z h2;rcases z with z|z|z
  ·exact h2.1 z
  ·exact h2.2 z
  ·exact h1 z))
 have slots:∀b o,s'.heap.get? b=some o->b∈frs X.stack->∃sl,h3.get? b=some {o with slots:=sl}:=fun b o eb hm=>by
  obtain⟨_,o',EB,nf⟩:=I1.stack.mem hm;rw[eb]at EB;cases EB;exact ups b o eb nf
 have nfr:∀b u,H' b=some u->b∉frs X.stack:=fun b u eb hm=>by
  have:=I1.stkFree b hm
  rw[eb]at this;cases this
 have tn:H' T=none:=by
  cases z:H' T with
  |none=>rfl
  |some u=>
   obtain⟨o',z'⟩:=htr T u z;rw[hBT]at z';cases z'
 have nch:∀b u,H' b=some u->b∉[ea,T]:=fun b u eb hm=>by
  simp only[Zz,Zr,or_false]at hm;rcases hm with z|z
  ·rw[z,hH]at eb;cases eb
  ·rw[z,tn]at eb;cases eb
 have une:∀b u,H' b=some u->upd H' ea (jf ea cls) b=some u:=fun b u eb=>by
  rw[aG (fun z=>by rw[z,hH]at eb;cases eb)];exact eb
 refine k ea cls a0 H' h3 _ rfl hE hH ?_ fl3 (new ea EM) fun T2 oT2 ts2 h2T hd2 hB2 hne2=>?_;rotate_left
 ·have s2:s.heap.get? T2=none/\H' T2=none:=by
   by_cases hTT:T2=T
   ·rw[hTT];exact⟨sT,tn⟩
   ·have z:s'.heap.get? T2=none:=by
     cases z:s'.heap.get? T2 with
     |none=>rfl
     |some o=>
      by_cases hm:T2∈frs X.stack
      ·obtain⟨sl,z2⟩:=slots T2 o z hm;obtain⟨_,o',EB,nf⟩:=I1.stack.mem hm;rw[z]at EB;cases EB;rw[h2T]at z2;cases z2;exact absurd hd2 (nf ts2)
      ·have:=Wu (ea::T::frs X.stack) z (by
        intro zz;simp only[Zz]at zz;rcases zz with zz|zz|zz
        ·exact hne2 zz
        ·exact hTT zz
        ·exact hm zz)
       first
        | (rw[hB2]at this;cases this)
        | (rw[hs]at this;rw[hB2]at this;cases this)
    refine⟨?_,?_⟩
    ·cases z3:s.heap.get? T2 with
     |none=>rfl
     |some o=>
      obtain⟨o',z4⟩:=un.there T2 o z3 (by simp)
      rw[z]at z4;cases z4
    ·cases z3:H' T2 with
     |none=>rfl
     |some u=>
      obtain⟨o',z4⟩:=(I1.hok T2 u z3).there;rw[z]at z4;cases z4
  exact⟨new T2 s2.1,by rw[aG hne2];exact s2.2⟩
 refine I1.stepN (g':=s'.gens) (t':=s'.toks) (d':=s'.drawn) (ch:=[ea,T]) (fun b hb=>?_) (fun b o h1 h2 h3' eb _=>out b o eb (fun hm=>?_) h3') (fun b o h1 h2 h3' eb _=>slots b o eb (by rw[EA];exact Zo _ h2)) (fun b o hb eb n=>?_)
  (fun b o hb eb=>?_) (fun b xs eb=>une b _ eb) (fun b o u eb=>une b _ eb) (fun b ps eb=>⟨#[],by rw[une b _ eb];simp⟩) (fun m hm=>?_) (fun b o eb=>?_) I1.bare
 ·simp only[Zz,Zr,or_false]at hb;rcases hb with z|z
  ·rw[z];exact new ea EM
  ·rw[z];exact new T sT
 ·rw[EA]at hm;rcases Zz.mp hm with z|z
  ·exact h1 z
  ·exact h2 z
 ·rw[aG (fun z=>hb (by simp[z]))];exact n
 ·by_cases hm:b∈frs X.stack
  ·obtain⟨sl,z⟩:=slots b o eb hm;exact⟨_,z⟩
  ·exact⟨_,out b o eb hm hb⟩
 ·obtain⟨o,es,ep,ho,hd,r⟩:=hm;obtain⟨sl,z⟩:=slots _ o ho (by rw[EA];exact Za)
  exact⟨_,es,ep,z,hd,r⟩
 ·by_cases hb:b=ea
  ·subst hb;rw[aj]at eb;cases eb;obtain⟨ob,h1,h2⟩:=fl3.there;exact⟨⟨ob,h1,h2⟩,⟨ob,h1⟩,fun h1 h2 ⟨o,z1,z2⟩ kk=>⟨o,kk o z1,z2⟩⟩
  ·rw[aG hb]at eb;refine (I1.hok b o eb).stay (fun c u hc ec=>out c u ec ?_ ?_) (fun c z=>une c _ z) fun c xs z=>une c _ z
   ·rcases hc with z|z
    ·rw[z];exact nfr b o eb
    ·exact nfr c _ z
   ·rcases hc with z|z
    ·rw[z];exact nch b o eb
    ·exact nch c _ z
end
end L2
end
section
namespace L2
open PySem PySem.W PySem.Spec PyProof.Rows
noncomputable abbrev Cx.marked(X:Cx)(e:Value)(E:Value->Shared->Prop):Cx:={X with A:=X.A.mark (some e),calm:=false,xe:=E}
theorem Cx.Ok.marked{X:Cx}(ok:X.Ok)(e:Value)(E:Value->Shared->Prop):(X.marked e E).Ok:=
 ⟨ok.mod,ok.kind,ok.glob,ok.blt,ok.above,ok.inj,ok.has,ok.cab,(fun h=>by cases h),ok.frames,ok.stk,ok.exf,ok.bs,ok.bsz,ok.noex,ok.exfs,ok.funs,ok.frf⟩
section
variable{X:Cx}{aa:List (Addr×Obj)}{σ:St}{H:Hp}{s:Shared}{e:Value}{E:Value->Shared->Prop}
theorem Inv.marked(I:Inv X aa σ H s)(e:Value)(E:Value->Shared->Prop):Inv (X.marked e E) aa σ H s:=⟨I.ok.marked e E,I.os,I.bare,I.base,I.loc,I.cell,I.free,I.freeC,I.pin,I.hok,I.len⟩
theorem Inv.unmark{E:Value->Shared->Prop}(ok:X.Ok)(I:Inv (X.marked e E) aa σ H s):Inv X aa σ H s:=⟨ok,I.os,I.bare,I.base,I.loc,I.cell,I.free,I.freeC,I.pin,I.hok,I.len⟩
theorem zC{cn:Str}{C:Addr}{ea:Addr}{cls:Value}{b:Bool}{np pos:Pos}{R:VT->Shared->Prop}(I:Inv X aa σ H s)(hg:Gl X cn)(hm:X.mg cn=some (.ref C))(he:∃oe,s.heap.get? ea=some oe/\oe.cls=cls)(hx:exmOne X.K cls (.ref C)=some b)
  (h:R (.ok (if b then .brk else .next)) s)(EL:(cn==("__debug__" : Str))=false:=by decide):
  Xd (model X.prog X.w) (X.A.mark (some (.ref ea))) (.handlers (.ref ea) [.ExceptHandler (some (.Name cn np)) none [] pos] X.env) R s:=by
 refine codeAny_handlers_test ?_;have I':=I.marked (.ref ea) (fun _ _=>True);refine iq (X:=X.marked (.ref ea) (fun _ _=>True)) I' hg hm ?_ EL;obtain⟨oe,h1,h2⟩:=he;have LT:Looks (model X.prog X.w) s.heap (typeOf (.ref ea)) cls:=by
  rw[<-h2];exact (Looks.ld h1).andThen .now
 exact (exm_one (M:=model X.prog X.w) I.kIn LT hx).here h
end
end L2
end
section
namespace L2
open PySem PySem.W PySem.Spec PyProof.Rows
section
variable{X:Cx}{aa:List (Addr×Obj)}{σ:St}{H:Hp}{s:Shared}
theorem flight_again{B:ZF}{ea:Addr}{cls a0:Value}{A:ZK}{Q:Unit->Shared->Prop}{E':Value->Shared->Prop}(I:Inv X aa σ H s)(hex:X.ex=[])(FB:H ea=some (jf ea cls))(fl:WR B X.stack ea cls a0 s.heap)
  (EM:∀T oT ts,s.heap.get? T=some oT->oT.data=.fields ts->B.get? T=none->T≠ea->(X.s₀.heap.get? T=none/\T≠X.env.locals/\(∀x c,X.env.cells.lookup x=some c->c≠T)/\∀p∈X.pn++aa,p.1≠T)/\H T=none)
  (EJ:X.s₀.heap.get? ea=none/\ea≠X.env.locals/\(∀x c,X.env.cells.lookup x=some c->c≠ea)/\∀p∈X.pn++aa,p.1≠ea)
  (k:∀h',Inv X aa σ H {s with heap:=h'}->Q () {s with heap:=h'}):Zq (model X.prog X.w) A (setFlight (.ref ea) none) Q E' s:=by
 obtain⟨T,oT,ts,hT,hdT,hBT,hTe,flB⟩:=oZ fl;obtain⟨nT,tn⟩:=EM T oT ts hT hdT hBT hTe;refine wpAny_setFlight_noneW flB.1 flB.2.2.1 (fl:=.none) flB.2.2.2 fun h' k1 k2 k3 k4=>k h' ?_;have out:∀b o,s.heap.get? b=some o->b∉[ea,T]->h'.get? b=some o:=fun b o eb hb=>by
  by_cases hm:b∈frs X.stack
  ·obtain⟨_,o',EB,nf⟩:=I.stack.mem hm;rw[eb]at EB;cases EB;exact k4 b o eb nf
  ·refine k1 b o (Wu _ eb fun z=>?_);simp only[Zz,Zr,or_false,W6]at z hb;rcases z with z|z|z
   ·exact hb.1 z
   ·exact hb.2 z
   ·exact hm z
 have nch:∀b u,H b=some u->b≠ea->b∉[ea,T]:=fun b u eb hb hm=>by
  simp only[Zz,Zr,or_false]at hm;rcases hm with z|z
  ·exact hb z
  ·rw[z,tn]at eb;cases eb
 have neO:∀c,H c=some (.own ea)->c≠ea:=fun c z e=>by rw[e,FB]at z;cases z
 refine I.stepN (g':=s.gens) (t':=s.toks) (d':=s.drawn) (ch:=[ea,T]) (fun b hb=>?_) (fun b o _ _ h3 eb _=>out b o eb h3) (fun b o _ _ h3 eb _=>⟨o.slots,out b o eb h3⟩) (fun _ _ _ _ n=>n)
  (fun b o hb eb=>⟨_,out b o eb hb⟩) (fun _ _ e=>e) (fun _ _ _ e=>e) (fun b ps e=>⟨#[],by rw[e];simp⟩) (fun m hm=>?_) (fun b o eb=>?_) I.bare
 ·simp only[Zz,Zr,or_false]at hb;rcases hb with z|z
  ·rw[z];exact EJ
  ·rw[z];exact nT
 ·obtain⟨o,es,ep,ho,hd,r⟩:=hm;refine⟨o,es,ep,out _ o ho ?_,hd,r⟩;simp only[Zz,Zr,or_false,W6];exact⟨fun z=>EJ.2.1 z.symm,fun z=>nT.2.1 z.symm⟩
 ·by_cases hb:b=ea
  ·subst hb;rw[FB]at eb;cases eb;obtain⟨oe,vs,T2,oT2,ts2,he2,hc2,_⟩:=k3;exact⟨⟨oe,he2,hc2.1⟩,⟨oe,he2⟩,fun h1 h2 ⟨o,z1,z2⟩ kk=>⟨o,kk o z1,z2⟩⟩
  ·refine (I.hok b o eb).stay (fun c u hc ec=>out c u ec ?_) (fun _ z=>z) fun _ _ z=>z;rcases hc with z|z
   ·rw[z];exact nch b o eb hb
   ·refine nch c _ z fun e=>?_;rw[e,FB]at z;cases z
end
end L2
end
section
namespace L2
open PySem PySem.W PySem.Spec PyProof.Rows
section
variable{X:Cx}{CX:CXT}{k:Nat}{f:Addr}{fd:Zf}{ps:List Str}{sp:Sp}{E:XK}
theorem xy{aa:List (Addr×Obj)}{σ:St}{H:Hp}{s:Shared}{Q:VK}{us:List Value}{vs:List V}{Ex:Value->Shared->Prop}(F:aI X.prog X.w X.K X.mg X.base CX k f fd ps sp)(hr:dJ k X.A)(hb:Binds X.K fd ps [])
  (I:Inv X aa σ H s)(r:aR vs us)(h:sp vs H Q E)(herr:∀e s',CX X.stack H s E e s'->Ex e s'):Zq (model X.prog X.w) X.A (call (.ref f) us) (EP X aa σ Q) Ex s:=by
 have hl:(us++[]).length=ps.length:=by rw[ZT,<-r.length];exact F.len _ _ _ _ h
 have hb':=hb s us I.kIn hl;rw[ZT]at hb';refine Vh (X_ (F.run X.A X.stack s H ⟨us,[]⟩ us vs Q E hr I.env0 hb' r h) fun r s' hq=>?_);cases r with
 |error e=>exact herr e s' hq
 |ok fl=>
  cases fl with
  |ret u=>exact I.after hq
  |next=>exact False.elim hq
  |brk=>exact False.elim hq
  |cont=>exact False.elim hq
end
end L2
end
section
namespace L2
open PySem PySem.W PySem.Spec PyProof.Rows
noncomputable def Ae(K:Z3)(ta:TA)(sp:Sp)(C:Addr)(i:Nat)(ts:TS):TS:=fun D σ H=>ta σ H fun vs H1=>sp vs H1 (fun _ H2=>D.nx σ H2) fun cls _ H2=>exmOne K cls (.ref C)=some true/\
 ∀ea,H2 ea=none->ts {nx:=fun σ3 H3=>D.nx (σ3.set i none) H3,rt:=D.rt} (σ.set i (some (.ref ea))) (upd H2 ea (jf ea cls))
section
variable{X:Cx}{aa:List (Addr×Obj)}{σ:St}{H:Hp}{s:Shared}{i:Nat}{x:Str}{M:UR}{A:ZK}{E:Value->Shared->Prop}
theorem name_goes{pos:Pos}{Q:Unit->Shared->Prop}(I:Inv X aa σ H s)(hN:X.N.Nodup)(hi:X.N[i]?=some x)(hk:X.env.kindOf x=some .local)
  (h:∀s',Inv X aa (σ.set i none) H s'->Q () s'):Zq M A (do bindName X.env x .none;unbindBehindTheSuite X.env x pos) Q E s:=by
 obtain⟨m,hn,hl⟩:=id I.loc;have hcls:(X.env.scope.kind==.class||(X.env.scope.kind==.module&&X.env.locals != X.env.globals))=false:=by rw[I.ok.kind];rfl
 have hiσ:i<σ.length:=by rw[I.len];exact (Zh.mp hi).1
 have low:∀{b:Addr} {o:Obj},X.s₀.heap.get? b=some o->b≠X.env.locals:=fun e=>Nat.ne_of_lt (Nat.lt_of_lt_of_le (Z_ e) I.ok.above);refine wpAny_nameGoes_keeps hk hn hcls fun h' v hn' hs=>h _ ?_;obtain⟨oL,_,_,hoL,_⟩:=id hn;have B:=I.base;refine {ok:=I.ok,os:=I.os,bare:=I.bare,base:=⟨fun b o e n hb hx=>(hs.2 b (low e)).trans (B.keep b o e n hb hx),fun b o e n hb hx=>?_,B.free,fun b o e hx=>?_,B.tups,B.frzs,B.tbls⟩,loc:=⟨_,hn',fun j y v' e1 e2 e3=>?_⟩,cell:=fun y c e=>?_,free:=I.free,freeC:=I.freeC,pin:=fun p hp=>?_,hok:=fun b ob e=>?_,len:=by simpa using I.len}
 ·obtain⟨sl,e1⟩:=B.slot b o e n hb hx;exact⟨sl,(hs.2 b (low e)).trans e1⟩
 ·obtain⟨o',e1⟩:=B.there b o e hx;exact⟨o',(hs.2 b (low e)).trans e1⟩
 ·have hj:j≠i:=by
   rintro rfl;rw[Ws hiσ]at e2;cases e2
  rw[Xo (Ne.symm hj)]at e2;obtain⟨u',r',q⟩:=hl j y v' e1 e2 e3;refine⟨u',r',?_⟩;rcases q with ⟨k,e⟩|⟨k,c,e,z⟩
  ·have:y≠x:=fun e=>hj (lP hN e1 (e ▸ hi))
   exact .inl ⟨k,by simp[this,e]⟩
  ·exact .inr ⟨k,c,e,z.sameBut hs (I.cne y c e)⟩
 ·obtain⟨w',z⟩:=I.cell y c e;exact⟨w',z.sameBut hs (I.cne y c e)⟩
 ·obtain⟨e,n,ne,nf,d⟩:=I.pin p hp;exact⟨(hs.2 p.1 ne).trans e,n,ne,nf,d⟩
 ·refine (I.hok b ob e).stay (fun c w' hc q=>(hs.2 c ?_).trans q) (fun _ q=>q) fun _ _ q=>q;rintro rfl;rcases hc with rfl|hc
  ·rw[I.free]at e;cases e
  ·rw[I.free]at hc;cases hc
end
section
variable{X:Cx}{k:Nat}{f C:Addr}{fd:Zf}{ps:List Str}{sp:Sp}{x cn n:Str}{p np Et FZ Fe pos:Pos}{e:ZN}{es:List ZN}{b₀:Stmt}{Ft:List Stmt}{ta:TA}{ts:TS}{i:Nat}
theorem wn(Gv:∀e s,X.xe e s->False)(hex:X.ex=[])(EA:frs X.stack=X.env.locals::X.fs)(hs:X.stack=X.env::X.outer)(hf:X.env.frame=some X.env.locals)
  (F:aI X.prog X.w X.K X.mg X.base (CX1 X.prog X.w X.base) k f fd ps sp)(hr:dJ k X.A)(hg:Gl X x)(hm:X.mg x=some (.ref f))(hk:Yl X.K (.ref f)=true)(hb:Binds X.K fd ps [])
  (ha:PA X (e::es) ta)(hgc:Gl X cn)(hmc:X.mg cn=some (.ref C))(hN:X.N.Nodup)(hi:X.N[i]?=some n)(hn:Loc X.env.scope n)(FN:X.env.kindOf n=some .local)(hfn':X.env.scope.names.lookup n=some .local)
  (hsu:∀ea,PSs (X.marked (.ref ea) (fun _ _=>False)) (b₀::Ft) ts)
  (EL:(x==("__debug__" : Str))=false:=by decide)(hdc:(cn==("__debug__" : Str))=false:=by decide)(he:Zp (e::es) X.env=(false,eval e X.env)::Zp es X.env:=by rfl)(EC:(backTo Et (Zp es X.env)).any (·.1)=false:=by rfl)(FX:swapsWith (.Call (.Name x p) (e::es) [] Et) none FZ.line X.env=pure false:=by rfl):
  PS X (.Try [.Expr (.Call (.Name x p) (e::es) [] Et) FZ] [.ExceptHandler (some (.Name cn np)) (some n) (b₀::Ft) Fe] [] [] pos) (Ae X.K ta sp C i ts):=by
 intro aa s σ H D I h;refine wpAny_Try_except (Wh (UT ?_ I.quiet FX));refine Yh (iq I hg hm ?_ EL);refine WU (h₀:=X.base) I.ok.mod.kin hk (Y0 (ha Et aa s σ H _ I h) (fun us s1 ⟨vs,H1,I1,r,q⟩=>⟨I1.kIn,?_⟩) (fun e s z=>(Gv e s z).elim)) he EC;refine Y0 (xy (Q:=fun _ H2=>D.nx σ H2) F hr hb I1 r q (Ex:=fun e s₁=>Zq (model X.prog X.w) X.A (noteFrame e X.env) (fun _ s₂=>Zq (model X.prog X.w) X.A (setFlight e none) (fun _ s₃=>Zq (model X.prog X.w) X.A (handleBy e X.env [.ExceptHandler (some (.Name cn np)) (some n) (b₀::Ft) Fe]) (SP X aa D) X.xe s₃) X.xe s₂) X.xe s₁) (fun e s' FY=>?_)) (fun u s2 hu=>?_) (fun _ _ z=>z)
 ·refine DW I1 hex EA hs hf FY fun ea cls a0 H' h3 B ee hE hH I3 fl3 nea nT=>?_;subst ee;obtain⟨hxm,hsuite⟩:=hE;refine wpAny_handleBy_cons (zC I3 hgc hmc fl3.there hxm ?_ hdc) (by intro q;cases q)
  refine codeAny_handlers_suite_as (flight_again (A:=X.A.mark (some (.ref ea))) I3 hex aj fl3 (fun T oT ts h1 h2 h3 h4=>nT T oT ts h1 h2 h3 h4) nea fun h4 I4=>?_);refine jI I4 hN hi hn (v:=.ref ea) rfl (fun s5 I5=>?_) (.inr hfn');have I5':=I5.marked (.ref ea) (fun _ _=>False);refine Y0 (hsu ea aa s5 _ _ _ I5' (hsuite ea hH)) (fun fl s6 h6=>?_) (fun _ _ z=>z.elim);show Zq (model X.prog X.w) X.A (do bindName X.env n .none;unbindBehindTheSuite X.env n Fe) (fun _ s₃=>SP X aa D fl s₃) X.xe s6
  cases fl with
  |next=>
   obtain⟨σ',H'',I6,q6⟩:=h6;exact name_goes (I6.unmark I3.ok) hN hi FN fun s7 I7=>⟨_,_,I7,q6⟩
  |ret u=>
   obtain⟨v,σ',H'',I6,rv,q6⟩:=h6;exact name_goes (I6.unmark I3.ok) hN hi FN fun s7 I7=>⟨_,_,_,I7,rv,q6⟩
  |brk=>obtain⟨_,_,_,q6⟩:=h6;exact q6.elim
  |cont=>obtain⟨_,_,_,q6⟩:=h6;exact q6.elim
 ·obtain⟨v,H2,I2,rv,q2⟩:=hu;exact XF (XF ⟨σ,H2,I2,q2⟩)
end
end L2
end
section
namespace L2
open PySem PySem.W PySem.Spec PyProof.Rows PySem.Calls Builtin Builtin.ObjectAttr Builtin.Getset_descriptor
structure gB(K:Z3)(C:Addr):Prop where
 ga:findIn K (.ref C) "__getattribute__" = some (some (.builtin "BaseException.__getattribute__"))
 gn:findIn K (.ref C) "__getattr__" = some none
 ca:findIn K (.ref C) "__class__" = some (some (.builtin "object.__class__"))
 mo:mroIn K C (.type "object")=some true
 mb:mroIn K C (.type "BaseException")=some true
 is:(clsIn K C).isSome=true
section
variable{prog:Zv}{w:Zl}{A:ZK}{E:Value->Shared->Prop}{h:ZF}{g:Array Wt}{d:Drawn}{t:Nat}{os:OsState}{a C:Addr}{o:Obj}{K:Z3}
theorem uY{M:UR}(hx:h.get? a=some o)(hc:o.cls=.ref C):Looks M h (typeOf (.ref a)) (.ref C):=hc ▸ (Looks.ld hx).andThen .now
theorem Cy{R:VT->Shared->Prop}{tp:Value}(X:K.In h)(Z:gB K C)(hx:h.get? a=some o)(hc:o.cls=.ref C)(hq:R (.ok (.ret (.ref C))) ⟨h,g,d,t,os⟩):
  Xd (model prog w) A (.call (.builtin "getset_descriptor.__get__") ⟨[.builtin "object.__class__",.ref a,tp],[]⟩) R ⟨h,g,d,t,os⟩:=by
 have L0:=uY (M:=model prog w) hx hc;have L1:=Sg (M:=model prog w) X Z.mo;refine XW KF.slot_gs.plain KF.entry_gs (KF.slot_gs.check _ _ _ _ _ _ _ _ KF.type_class (KF.args_gs _ _ _) ?_);unfold XC.«getset_descriptor.__get__» descrGet;rw[dga_obj];refine Z1 (Z7 ?_);unfold descrGetter descrCheckInstance descrNameAndClass isInstance;simp only[KF.owner_class]
 repeat lk
 refine⟨V0 _ (by decide +kernel),Yk KF.entry_class ?_⟩
 unfold XC.«object.__class__» shownTypeOf
 repeat lk
 exact hq
theorem Am{tk:Tok}{Q:Fin->Shared->Prop}(X:K.In h)(Z:gB K C)(hx:h.get? a=some o)(hc:o.cls=.ref C)(hq:Q (.done (.ret (.ref C))) ⟨h,g,d,t,os⟩):
  Zq (model prog w) A (XC.«object.__getattribute__» ⟨[.ref a,.str "__class__" tk],[]⟩) Q E ⟨h,g,d,t,os⟩:=by
 have L2:=Ua (M:=model prog w) X Z.ca;have hT5:(⟨h,g,d,t,os⟩:Shared).TypeIs (.builtin "object.__class__") "getset_descriptor" :=F.typeOf_object_class;have f5:=F.typeOf_object_class;have f6:=F.slot_gs_get.lookup;have f7:=F.slot_gs_set.lookup
 repeat (any_goals (first|assumption| (with_reducible refine V_ hx ?_;rw[hc])|with_reducible refine Tz L2 ?_|wp_step))
 refine Cy X Z hx hc ?_
 repeat (any_goals (first|assumption|wp_step))
theorem yU{M:UR}{FH:Value}{Q:Unit->Shared->Prop}(X:K.In h)(Z:gB K C)(hx:h.get? a=some o)(hc:o.cls=.ref C)(hq:Q () ⟨h,g,d,t,os⟩):Zq M A (checkBuiltinCall "BaseException.__getattribute__" ⟨[.ref a,FH],[]⟩) Q E ⟨h,g,d,t,os⟩:=by
 have hk:builtinKind "BaseException.__getattribute__" = some .slot:=by decide +kernel
 have hsplit:splitId "BaseException.__getattribute__" = some ("BaseException","__getattribute__"):=by decide +kernel
 have ha:=F.args_bexc_ga (.ref a) FH;have L1:=Sg (M:=M) X Z.mb;simp only[checkBuiltinCall,hk,hsplit];refine Z1 ?_;unfold isInstance
 repeat (first| (with_reducible refine V_ hx ?_;rw[hc])|with_reducible refine Tz L1 ?_|wp_step)
 exact hq
theorem DR{tk:Tok}{fill expr:Bool}{Q:Value->Shared->Prop}(X:K.In h)(Z:gB K C)(hx:h.get? a=some o)(hc:o.cls=.ref C)(hq:Q (.ref C) ⟨h,g,d,t,os⟩):
  Zq (model prog w) A (getAttrBy (.ref a) (.str "__class__" tk) fill expr) Q E ⟨h,g,d,t,os⟩:=by
 have f3:=F.excAttr_ValueError.ga.bind (.ref a);have Gv:(expr&&onTheHeap (Value.builtin "BaseException.__getattribute__"))=false:=by cases expr<;>rfl
 have hx2:(Value.builtin "BaseException.__getattribute__"==Value.builtin "object.__getattribute__")=false:=by decide +kernel
 have hx1:(onTheHeap (Value.ref C)&&Value.builtin "BaseException.__getattribute__"==Value.builtin "object.__getattribute__")=false:=by rw[hx2];rfl
 have L1:=Ua (M:=model prog w) X Z.ga;have L2:=Ua (M:=model prog w) X Z.gn
 repeat (any_goals (first|assumption| (with_reducible refine V_ hx ?_;rw[hc])|with_reducible refine Tz L1 ?_|with_reducible refine Tz L2 ?_|wp_step))
 refine XW F.excAttr_ValueError.ga.plain F.entry_bexc_ga (yU X Z hx hc (Am X Z hx hc ?_))
 repeat (any_goals (first|assumption|wp_step))
theorem B4{Q:Option Value->Shared->Prop}(X:K.In h)(Z:gB K C)(hx:h.get? a=some o)(hc:o.cls=.ref C)(hq:Q (some (.ref C)) ⟨h,g,d,t+1,os⟩):Zq (model prog w) A (getAttr? (.ref a) "__class__") Q E ⟨h,g,d,t,os⟩:=by
 unfold getAttr? getAttrBy?
 repeat (any_goals (first|assumption|with_reducible apply DR X Z hx hc|wp_step))
theorem yY(Z:gB K C):KitX K (.ref a) (.ref C) (fun h=>∃o,h.get? a=some o/\o.cls=.ref C) where
 ty:=fun M h _ ⟨o,hx,hc⟩=>uY hx hc
 it:=fun M h X _=>by
  obtain⟨cd,hcD⟩:=W9.mp Z.is;unfold clsIn at hcD
  split at hcD
  ·rename_i c' d' cd' sl' ho;intro A' Q' E' s' k q;unfold isType loadHead;exact Z1 (wpAny_loadPart (k _ _ (X _ _ ho)) (Z7 q))
  ·cases hcD
 ne:=fun h tp dd C' n sl X htp=>by
  obtain⟨cd,hcD⟩:=W9.mp Z.is;refine Yq.mpr fun q=>?_;have e:C=tp:=Value.ref.inj (beq_iff_eq.mp q);subst e;unfold clsIn at hcD
  split at hcD
  ·rename_i c' d' cd' sl' ho
   have:=X _ _ ho
   rw[htp]at this;cases this
  ·cases hcD
 ca:=fun {prog w A E Q s} X ⟨o,hx,hc⟩ q=>by
  obtain⟨h,g,d,t,os⟩:=s;exact B4 X Z hx hc q
end
section
variable{X:Cx}
noncomputable def CT(b:Bool)(C:Addr)(cv:V):List V->Hp->VK->Prop:=fun xs H Q=>∃ea,xs=[.ref ea,cv]/\H ea=some (jf ea (.ref C))/\Q (.bl b) H
theorem ik{b:Bool}{c:Value}{cv:V}{C:Addr}(Z:gB X.K C)(e:Y7 X.K (.ref C) c=some b)(hc:∀u,RelV cv u->u=c):dy X (.builtin "isinstance") (CT b C cv):=by
 intro aa s σ H xs us Q I r h;obtain⟨ea,rfl,eo,q⟩:=h;obtain⟨u,v,rfl,ra,rb⟩:=vals2 r;cases (show u=Value.ref ea from ra)
 rw[hc v rb];obtain⟨φ,_⟩:=(show bF X.prog X.w H s.heap ea (.ext _) from I.hok ea _ eo)
 exact PySem.W.kia_one (yY Z) I.kIn φ e (fun z=>nomatch z) fun tk=>⟨.bl b,H,I.tok _,rfl,q⟩
end
section
variable{P:Zv}{w:Zl}{K:Z3}{mg:Str->Option Value}{base:ZF}
theorem Fun.okX{x qual:Str}{st:Stmt}{f:Addr}{fd:Zf}{N ps:List Str}{k:Nat}{sp:Sp}(F:Fun K x qual st f fd)(S:aD N ps (aq st))(len:∀vs H Q E,sp vs H Q E->vs.length=ps.length)
  (EG:∀(E3:Value) (A:ZK) (outer:List Env) (s:Shared) (H:Hp) (vs:List V) (Q:VK) (E:XK),dJ k (A.deeper (envOfC qual (aq st) s.heap.objs.size f E3))->sp vs H Q E->
   ∃t,PSs (fQ (CX1 P w base) P w K mg base N qual (aq st) f E3 A outer s H E) (ez st) t/\t {nx:=fun _ H'=>Q .non H',rt:=Q} (start N vs) H):aI P w K mg base (CX1 P w base) (k+1) f fd ps sp:=by
 obtain⟨oc,od,kV,doc,pm,an,E3,ct,Fl,rfl,lk,F0⟩:=F.ex;exact AB lk F0 S len fun A outer s H vs Q E hr F1=>EG E3 A outer s H vs Q E hr F1
structure cq(P:Zv)(w:Zl)(K:Z3)(mg:Str->Option Value)(base:ZF)(n:Nat)(x:Str)(ps:List Str)(sp:Sp):Prop where
 ex:∃f fd,aI P w K mg base (CX1 P w base) n f fd ps sp/\Binds K fd ps []/\Yl K (.ref f)=true/\mg x=some (.ref f)
theorem cq.of{n:Nat}{x:Str}{ps:List Str}{sp:Sp}{f:Addr}{fd:Zf}(F:aI P w K mg base (CX1 P w base) n f fd ps sp)(b:Binds K fd ps [])(k:Yl K (.ref f)=true)(m:mg x=some (.ref f)):cq P w K mg base n x ps sp:=⟨f,fd,F,b,k,m⟩
end
end L2
end
section
namespace L2
open PySem PySem.W PySem.Spec PyProof.Rows
noncomputable def nsQ(K:Z3)(N:Addr):Bool:=match K.lookup N with
 |some ⟨_,_,.dict es _,_⟩=>es.all (fun e=>match e.key with| .str _ _=>true|_=>false)&&(nsFind es "__init__").isNone
 |_=>false
noncomputable def kS(K:Z3)(C:Addr):Bool:=match K.lookup C with
 |some ⟨_,_,.cls cd,_⟩=>nsQ K cd.ns
 |_=>false
noncomputable def rp(K:Z3)(C:Addr)(bm:List Value)(newId:String):Bool:=match K.lookup C with
 |some ⟨.type T,_,.cls cd,sl⟩=>T=="type"&&cd.mro==.ref C::bm&&!cd.hasDel&&(match sl with|⟨[_,_,_,_,some (.builtin i),_]⟩=>i==newId|_=>false)
 |_=>false
noncomputable def rj(K:Z3)(C:Addr):Bool:=
 findIn K (.ref C) "__getattribute__"==some (some (.builtin "BaseException.__getattribute__"))&&findIn K (.ref C) "__getattr__"==some none&&findIn K (.ref C) "__class__"==some (some (.builtin "object.__class__"))&&
  mroIn K C (.type "object")==some true&&mroIn K C (.type "BaseException")==some true&&(clsIn K C).isSome
theorem kP{K:Z3}{C:Addr}(h:rj K C=true):gB K C:=by
 unfold rj at h;simp only[ZA,beq_iff_eq]at h;obtain⟨⟨⟨⟨⟨h1,h2⟩,h3⟩,h4⟩,h5⟩,h6⟩:=h;exact⟨h1,h2,h3,h4,h5,h6⟩
theorem AN{K:Z3}{N:Addr}{base:ZF}(X:K.In base)(h:nsQ K N=true):∃m,base.Ns N m/\m "__init__" = none:=by
 unfold nsQ at h
 split at h
 ·rename_i c d es ep sl e;rw[ZA]at h;refine⟨fun n=>nsFind es n,⟨_,es,ep,X _ _ e,rfl,fun x hx=>?_,fun _=>rfl⟩,Option.isNone_iff_eq_none.mp h.2⟩;have q:=(Array.all_eq_true'.mp h.1) x hx
  split at q
  ·rename_i a b hk;exact⟨a,b,hk⟩
  ·cases q
 ·cases h
theorem oo{K:Z3}{C A:Addr}{FA:List Value}{newId:String}{base:ZF}(X:K.In base)(h1:rp K C (.ref A::FA) newId=true)(h2:kS K C=true)(h3:kS K A=true):oQ base C (.ref A::FA) FA newId:=by
 refine⟨?_,?_⟩
 ·unfold kS at h2;unfold rp at h1
  split at h1
  ·rename_i T d cd sl e;rw[e]at h2;dsimp only at h2;simp only[ZA,beq_iff_eq,Yr]at h1;obtain⟨⟨⟨rfl,hm⟩,hd⟩,hs⟩:=h1;obtain⟨m,hN,hi⟩:=AN X h2
   split at hs
   ·rename_i k0 k1 k2 k3 i k5;obtain rfl:=beq_iff_eq.mp hs;obtain⟨nm,bs,mro,ns,q,hdct,sn,sub,ab,col,hdl⟩:=cd;dsimp only at hm hd hN;subst hm hd;exact⟨nm,q,ns,bs,hdct,sn,sub,ab,col,d,k0,k1,k2,k3,k5,m,X _ _ e,hN,hi⟩
   ·cases hs
  ·cases h1
 ·unfold kS at h3
  split at h3
  ·rename_i c d cd sl e;obtain⟨m,hN,hi⟩:=AN X h3;exact .own (X _ _ e) hN hi .base
  ·cases h3
noncomputable abbrev iJ:List Value:=[.type "ValueError",.type "Exception",.type "BaseException",.type "object"]
theorem jP{X:Cx}{x:Str}{C A:Addr}{e₀:ZN}{es:List ZN}{np Et pos:Pos}{t:TA}{R:Value->Hp->Prop}(hc:X.calm=true)(hg:Gl X x)(hm:X.mg x=some (.ref C))(O:oQ X.base C (.ref A::iJ) iJ "ValueError.__new__")
  (hR:my X R)(ha:PA X (e₀::es) t)(EL:(x==("__debug__" : Str))=false:=by decide)
  (he:Zp (e₀::es) X.env=(false,eval e₀ X.env)::Zp es X.env:=by rfl)(EC:(backTo Et (Zp es X.env)).any (·.1)=false:=by rfl):
  PS X (.Raise (some (.Call (.Name x np) (e₀::es) [] Et)) none pos) (w_ t C R):=
 zR hc hg hm O F.excBase_ValueError (by decide +kernel) F.excBase_ValueError hR ha EL he EC
end L2
end
section
namespace FD
open PySem L2 FF
noncomputable abbrev jQ:Stmt:=top 37
noncomputable def o6(c:Addr):Sp:=fun vs H Q E=>∃l rf cs tu T,vs=[.ref l,.ref tu]/\PLs H l rf cs/\aJ cs/\aF cs/\TnA H tu T/\i9 T/\
 (isT T=false->∀H',au H H'->E (.ref c) none H')/\(isT T=true->∀r rg H',au H H'->PLs H' r rg (cs.map T.led)->Q (.ref r) H')
section
variable{P:Zv}{w:Zl}{K:Z3}{mg:Str->Option Value}{base:ZF}{f:Addr}{fd:Zf}{cE cF cT cW:Addr}
theorem ph:aD ["corners","turning"] ["corners","turning"] (aq jQ):=.mk'
theorem vy(F:Fun K "turned" "turned" jQ f fd)(cR:Cal P w K mg base 6 "refuse_no_fence" ["corners"] eQ)(cI:Cal P w K mg base 1 "is_turning" ["turning"] vR)(cL:Cal P w K mg base 2 "led" ["points","turning"] tw)
  (m_T:mg "NoTurning" = some (.ref cT))(O:oQ base cT (.ref cE::iJ) iJ "ValueError.__new__"):aI P w K mg base (CX1 P w base) 7 f fd ["corners","turning"] (o6 cT):=by
 refine F.okX ph (by rintro _ _ _ _⟨l,rf,cs,tu,T,rfl,_⟩;rfl) fun E3 A outer s H vs Q E hr h=>?_
 obtain⟨l,rf,cs,tu,T,rfl,hP,co,fe,hT,bT,qE,q⟩:=h;refine⟨_,am (aV (ay cR hr (pa1 (pv 0))))
  (am (aZ (jw (c7 (ay cI hr (pa1 (pv 1))))) (ap (jP rfl rfl m_T O jg (pa1 b6))) aL)
  (ap (aC (ay cL hr (pa2 (pv 0) (pv 1)))))),?_⟩
 refine⟨_,rfl,l,rf,cs,rfl,hP,co,fe,fun H1 s1=>⟨[_,_],rfl,?_⟩⟩;refine⟨_,rfl,tu,T,rfl,s1 _ _ hT,bT,_,rfl,?_⟩;cases hb:isT T with
 |false=>exact c9 ⟨by decide,qE hb _ s1⟩
 |true=>exact fk ⟨[_,_],rfl,_,rfl,_,rfl,l,rf,cs,tu,T,rfl,hP.mono s1,co,by have:=fe.hi;lia,s1 _ _ hT,bT,fun r rg H2 s2 p=>q hb r rg H2 (s1.trans s2) p⟩
structure lV(K:Z3)(mg:Str->Option Value)(cE cF cT cW:Addr):Prop where
 mE:mg "FenceError" = some (.ref cE)
 mF:mg "NoFence" = some (.ref cF)
 mT:mg "NoTurning" = some (.ref cT)
 mW:mg "TooWide" = some (.ref cW)
end
end FD
end
section
namespace FD
open PySem L2 FF
noncomputable abbrev sMR:Stmt:=top 12
noncomputable abbrev iz:Stmt:=top 21
noncomputable def CZ:Sp:=fun vs H Q _=>∃a b c pa pb pc,vs=[.ref a,.ref b,.ref c]/\PtA H a pa/\PtA H b pb/\PtA H c pc/\Co pa/\Co pb/\Co pc/\Q (.bl (rtB pa pb pc)) H
noncomputable def At(cs:List Pt)(p:Pt):Bool:=(Z4 cs.length).any fun i=>dw (at' cs i) (at' cs (nx cs.length i)) p
noncomputable def gA(cs:List Pt)(p:Pt):Str:=if At cs p=true then "rim" else if xr (fun i=>rtB (at' cs i) (at' cs (nx cs.length i)) p) cs.length=true then "inside" else "outside"
noncomputable def jx:Sp:=fun vs H Q _=>∃l pt rf cs p,vs=[.ref l,.ref pt]/\PLs H l rf cs/\aJ cs/\aF cs/\PtA H pt p/\Co p/\∀H',au H H'->Q (.str (gA cs p)) H'
section
variable{P:Zv}{w:Zl}{K:Z3}{mg:Str->Option Value}{base:ZF}{f:Addr}{fd:Zf}
theorem scMR:aD ["start","end","point"] ["start","end","point"] (aq sMR):=.mk'
theorem D0(F:Fun K "meets_rightward" "meets_rightward" sMR f fd)(cT:Cal P w K mg base 1 "turn" ["start","end","point"] gF):aI P w K mg base CX0 2 f fd ["start","end","point"] CZ:=by
 refine F.ok scMR (by rintro _ _ _ _⟨a,b,c,pa,pb,pc,rfl,_⟩;rfl) fun E3 A outer s H vs Q E hr h=>?_
 obtain⟨a,b,c,pa,pb,pc,rfl,ha,hb,hc,ca,cb,cc,q⟩:=h;refine⟨_,aB (aZ (aQ be (fY fJ (ak ax (pv 0) ad) (ak ax (pv 2) ad)) (fY fJ (ak ax (pv 1) ad) (ak ax (pv 2) ad))) (ap (aC eJ)) aL)
  (ap (aC (fY be (fY fJ (ay cT hr (pa3 (pv 0) (pv 1) (pv 2))) ad) (fY fJ (ak ax (pv 1) ad) (ak ax (pv 0) ad))))),?_⟩
 refine⟨_,rfl,a,_,_,_,rfl,rfl,SqT.of ha,at1,_,rfl,c,_,_,_,rfl,rfl,SqT.of hc,at1,_,_,rfl,rfl,_,rfl,b,_,_,_,rfl,rfl,SqT.of hb,at1,_,rfl,c,_,_,_,rfl,rfl,SqT.of hc,at1,_,_,rfl,rfl,rfl,_,rfl,?_⟩;rw[nt];unfold rtB at q;refine aU (fun c1=>?_) (fun c1=>?_)
 ·have e:(decide (pc.2<pa.2) != decide (pc.2<pb.2))=false:=by
   unfold bne;rw[c1];rfl
  rw[e,Xc]at q;exact q
 ·have e:(decide (pc.2<pa.2) != decide (pc.2<pb.2))=true:=by
   unfold bne;rw[Yq.mpr c1];rfl
  rw[e,Uw]at q;refine⟨_,rfl,_,rfl,_,rfl,a,b,c,pa,pb,pc,rfl,ha,hb,hc,ca,cb,cc,_,_,rfl,rfl,_,rfl,b,_,_,_,rfl,rfl,SqT.of hb,at1,_,rfl,a,_,_,_,rfl,rfl,SqT.of ha,at1,_,_,rfl,rfl,rfl,?_⟩;rw[nt];exact q
theorem xv:(["start","end","point"]:List Str).Nodup:=by decide +kernel
theorem Eg:(["side","point"]:List Str).Nodup:=by decide +kernel
theorem k9:aD ["corners","point","sides","met"] ["corners","point"] (aq iz):=.mk'
theorem vt(F:Fun K "place_of" "place_of" iz f fd)(cS:Cal P w K mg base 1 "sides_of" ["corners"] gK)(cL:Cal P w K mg base 2 "lies_on" ["start","end","point"] qR)(cM:Cal P w K mg base 2 "meets_rightward" ["start","end","point"] CZ)
  (ma:mg "any" = none)(ml:mg "len" = none):aI P w K mg base CX0 3 f fd ["corners","point"] jx:=by
 refine F.ok k9 (by rintro _ _ _ _⟨l,pt,rf,cs,p,rfl,_⟩;rfl) fun E3 A outer s H vs Q E hr h=>?_
 obtain⟨l,pt,rf,cs,p,rfl,hp,co,fe,hpt,cp,q⟩:=h;refine⟨_,(aB (aE (i:=2) k9.nd (ay cS hr (pa1 (pv 0))))
  (aB (aZ (c7 (aN (jk rfl) rfl ma VR (pa1 (bA (N':=["start","end","point"]) (own:=2) (ag:=[1]) rfl (aO.of (sc:=aq iz) (N0:=["corners","point","sides","met"]) rfl rfl (by decide +kernel)) (bp (pv 2))
    (fun C cl fp aa s₂ H₂=>gJ (n:=2) rfl (bw (aM (i:=0) xv rfl (ZQ rfl)) (bw (aM (i:=1) xv rfl (ZQ rfl)) e8))) (fun C cl fp aa s₂ H₂=>bQ)
    (fun C cl fp aa s₂ H₂=>ay cL hr (pa3 (pv 0) (pv 1) (pv 2))))))) (ap (aC b6)) aL)
  (aB (db (i:=3) (N':=["side","point"]) (own:=1) (ag:=[1]) rfl (aO.of (sc:=aq iz) (N0:=["corners","point","sides","met"]) rfl rfl (by decide +kernel)) k9.nd rfl (ZQ rfl) (bp (pv 2))
    (fun C cl fp aa s₂ H₂=>aM (i:=0) Eg rfl (ZQ rfl)) (fun C cl fp aa s₂ H₂=>fh (c7 (ay cM hr (pa3 (ak bG (pv 0) ad) (ak bG (pv 0) ad) (pv 1))))) (fun C cl fp aa s₂ H₂=>pv 0))
  (ap (aC (lR (aQ be (ai dB (aN aW rfl ml ZJ (pa1 (pv 3))) ad) ad) b6 b6)))))),?_⟩
 have n3:=fe.lo;have FJ:=fe.hi;have s1:=au.refl H;have hp1:=hp;refine⟨_,rfl,l,rf,cs,rfl,hp1,by lia,by lia,fun r ts H2 s2 EK=>?_⟩
 have hp2:=hp1.mono s2;have hpt2:PtA H2 pt p:=s2 _ _ (s1 _ _ hpt);refine⟨_,rfl,r,rfl,⟨_,SqL.of EK.1⟩,?_⟩;refine⟨cs.length,fun i ys H'=>H'=H2/\ys=(Z4 i).map fun i=>V.bl (dw (at' cs i) (at' cs (nx cs.length i)) p),aS (by lia),⟨rfl,rfl⟩,fun ys H' hW=>⟨⟨aw cs.length ts,by rw[hW.1];exact SqL.of EK.1,by rw[av];exact Nat.le_refl _⟩,fun D hD=>?_⟩,
  fun i ys H' hi hW=>⟨⟨aw cs.length ts,_,by rw[hW.1];exact SqL.of EK.1,aY hi⟩,fun x H3 hy=>?_⟩⟩
 rotate_left
 ·obtain⟨rfl,rfl⟩:=hW;obtain⟨rfl,hy⟩:=hy;obtain⟨_,rfl⟩:=bN (hy _ (SqL.of EK.1));refine⟨_,_,rfl,SqT.of (EK.2 i hi),rfl,_,_,rfl,_,_,rfl,rfl,iL (by decide) (by decide),?_⟩
  refine c9 ?_;refine⟨_,rfl,_,rfl,_,rfl,_,_,_,_,_,_,rfl,hp2.2 _ hi,hp2.2 _ (aK hi),hpt2,co _ hi,co _ (aK hi),cp,rfl,?_⟩;rw[Ye,ZU];rfl
 obtain⟨eH,rfl⟩:=hW;rw[eH]at hD ⊢;have s3:=ao hD (.lst ((Z4 cs.length).map fun i=>V.bl (dw (at' cs i) (at' cs (nx cs.length i)) p)));have hD3:(upd H2 D (.lst ((Z4 cs.length).map fun i=>V.bl (dw (at' cs i) (at' cs (nx cs.length i)) p)))) D=some (.lst (((Z4 cs.length).map fun i=>dw (at' cs i) (at' cs (nx cs.length i)) p).map V.bl)):=by rw[aj,YK];rfl
 generalize upd H2 D (.lst ((Z4 cs.length).map fun i=>V.bl (dw (at' cs i) (at' cs (nx cs.length i)) p)))=H3 at *
 refine⟨D,_,rfl,SqL.of hD3,_,rfl,?_⟩;have eA:(((Z4 cs.length).map fun i=>dw (at' cs i) (at' cs (nx cs.length i)) p).any id)=At cs p:=by
  unfold At;rw[UA];rfl
 rw[eA];have sA:=(s1.trans s2).trans s3;unfold gA at q;refine aU (fun c=>?_) (fun c=>?_)
 ·have:=q H3 sA
  rw[if_pos c]at this;exact this
 have hp3:=hp2.mono s3;have hS3:=EK.mono s3;have hpt3:PtA H3 pt p:=s3 _ _ hpt2;refine⟨_,rfl,r,rfl,⟨_,SqL.of hS3.1⟩,?_⟩;refine fB (n:=cs.length) (rf:=ts) (fun i=>rtB (at' cs i) (at' cs (nx cs.length i)) p) (aS (by lia)) (SqL.of hS3.1) (fun i hi Qb hQ=>?_) (fun D2 hD2=>?_)
 ·have t1:=hS3.2 i hi;exact⟨_,rfl,_,_,_,_,rfl,rfl,SqT.of t1,at0,_,rfl,_,_,_,_,rfl,rfl,SqT.of t1,at1,_,rfl,_,_,_,_,_,_,rfl,hp3.2 _ hi,hp3.2 _ (aK hi),hpt3,co _ hi,co _ (aK hi),cp,_,rfl,hQ⟩
 have s4:=ao hD2 (.lst (((Z4 cs.length).filter fun i=>rtB (at' cs i) (at' cs (nx cs.length i)) p).map fun i=>V.ref (ts i)));have hD4:(upd H3 D2 (.lst (((Z4 cs.length).filter fun i=>rtB (at' cs i) (at' cs (nx cs.length i)) p).map fun i=>V.ref (ts i)))) D2=some (.lst (((Z4 cs.length).filter fun i=>rtB (at' cs i) (at' cs (nx cs.length i)) p).map fun i=>V.ref (ts i))):=aj;generalize upd H3 D2 (.lst (((Z4 cs.length).filter fun i=>rtB (at' cs i) (at' cs (nx cs.length i)) p).map fun i=>V.ref (ts i)))=H4 at *
 have q4:=q H4 (sA.trans s4);rw[if_neg c]at q4;refine⟨_,rfl,D2,_,rfl,.inl (SqL.of hD4),_,_,rfl,rfl,(show (0:Int)<2 by decide),rfl,_,rfl,?_⟩
 rw[cX,Z6];have cnt:=sP (f:=fun i=>rtB (at' cs i) (at' cs (nx cs.length i)) p) cs.length;generalize ((Z4 cs.length).filter fun i=>rtB (at' cs i) (at' cs (nx cs.length i)) p).length=m at *
 refine aU (fun d=>?_) (fun d=>?_)
 ·have d':((m:Nat):Int)%2=1:=by simpa using d
  rw[if_pos (cnt.mp (by lia))]at q4
  exact q4
 ·have d':¬((m:Nat):Int)%2=1:=by simpa using d
  rw[if_neg (fun z=>d' (by have:=cnt.mpr z;lia))]at q4
  exact q4
end
end FD
end
section
namespace FD
open PySem L2 FF
section
variable{P:Zv}{w:Zl}{K:Z3}{mg:Str->Option Value}{base:ZF}{f:Addr}{fd:Zf}
end
end FD
end
section
namespace FF
theorem tS{a b:Pt}{y lo hi:Int}(h:a.2≠b.2)(hb:eG a.2 y b.2=true)(ha:lo<=a.1/\a.1<=hi)(FO:lo<=b.1/\b.1<=hi):2*lo<=e_ a b y/\e_ a b y<=2*hi:=by
 have key:∀x,(b.2-a.2)*turn a b (x,y)=(b.2-a.2)*(b.2-a.2)*(a.1-x)+(b.1-a.1)*((y-a.2)*(b.2-a.2)):=fun x=>by
  rw[nR];unfold ip;grind
 have u0:0<=(y-a.2)*(b.2-a.2):=by
  rcases ui.mp hb with ⟨c,d⟩|⟨c,d⟩
  ·exact Int.mul_nonneg (by lia) (by lia)
  ·have:=Int.mul_nonneg (a:=a.2-y) (b:=a.2-b.2) (by lia) (by lia)
   have e:(a.2-y)*(a.2-b.2)=(y-a.2)*(b.2-a.2):=by grind
   lia
 have u1:(y-a.2)*(b.2-a.2)<=(b.2-a.2)*(b.2-a.2):=by
  rcases ui.mp hb with ⟨c,d⟩|⟨c,d⟩
  ·have:=Int.mul_nonneg (a:=b.2-y) (b:=b.2-a.2) (by lia) (by lia)
   have e:(b.2-y)*(b.2-a.2)=(b.2-a.2)*(b.2-a.2)-(y-a.2)*(b.2-a.2):=by grind
   lia
  ·have:=Int.mul_nonneg (a:=y-b.2) (b:=a.2-b.2) (by lia) (by lia)
   have e:(y-b.2)*(a.2-b.2)=(b.2-a.2)*(b.2-a.2)-(y-a.2)*(b.2-a.2):=by grind
   lia
 generalize (y-a.2)*(b.2-a.2)=u at *
 generalize hw:(b.2-a.2)*(b.2-a.2)=w at *
 have key2:∀x,(b.2-a.2)*turn a b (x,y)=(w-u)*(a.1-x)+u*(b.1-x):=fun x=>by rw[key];grind
 constructor
 ·have s:=(sC (x:=lo) (y:=y) h).2;have k:=key2 lo;have p1:=Int.mul_nonneg (a:=w-u) (b:=a.1-lo) (by lia) (by lia)
  have p2:=Int.mul_nonneg (a:=u) (b:=b.1-lo) u0 (by lia)
  apply Z9;intro c
  have:=s.mp (by lia)
  lia
 ·have s:=(sC (x:=hi) (y:=y) h).1;have k:=key2 hi;have p1:=Int.mul_nonneg (a:=w-u) (b:=hi-a.1) (by lia) (by lia)
  have p2:=Int.mul_nonneg (a:=u) (b:=hi-b.1) u0 (by lia)
  have e1:(w-u)*(a.1-hi)=-((w-u)*(hi-a.1)):=by grind
  have e2:u*(b.1-hi)=-(u*(hi-b.1)):=by grind
  apply Z9;intro c
  have:=s.mp (by lia)
  lia
theorem sK{cs:List Pt}{y lo hi:Int}(h:∀p,p∈cs->lo<=p.1/\p.1<=hi){k:Nat}(hk:k<cs.length)(m:zi cs y k):2*lo<=mX cs y k/\mX cs y k<=2*hi:=
 tS m.1 m.2 (h _ (b7 (bJ hk))) (h _ (b7 hk))
end FF
end
section
namespace L2
open PySem PySem.Spec PyProof.Rows
section
variable{X:Cx}{aa:List (Addr×Obj)}{σ:St}{H:Hp}{s:Shared}{h':ZF}
theorem Inv.turnedL{t':Nat}{ch:List Addr}(I:Inv X aa σ H s)(k:∀b o,b∉ch->s.heap.get? b=some o->h'.get? b=some o)(hf:∀b∈ch,jb X aa H b):Inv X aa σ H {s with heap:=h',toks:=t'}:=by
 have nit:∀b u,H b=some u->b∉ch:=fun b u e z=>by rw[(hf b z).1]at e;cases e
 refine I.step (g':=s.gens) (d':=s.drawn) (ch:=ch) (fun b hb=>?_) (fun b o _ _ hc e _=>k b o hc e) (fun b o _ _ hc e _=>⟨o.slots,k b o hc e⟩) (fun _ _ _ _ n=>n)
  (fun b o hc e=>⟨o,k b o hc e⟩) (fun _ _ e=>e) (fun _ _ _ e=>e) (fun b ps e=>⟨#[],by rw[e];simp⟩) (fun m hm=>?_) (fun b u e=>?_) I.bare
 ·obtain⟨f0,f1,f2,f3,f4,f5⟩:=hf b hb;exact⟨f3,f1,f4,f5⟩
 ·obtain⟨o,es,ep,ho,r⟩:=hm;exact⟨o,es,ep,k _ o (fun z=>(hf _ z).2.1 rfl) ho,r⟩
 ·refine (I.hok b u e).stay (fun c v hc q=>k c v ?_ q) (fun _ q=>q) fun _ _ q=>q;rcases hc with z|z
  ·rw[z];exact nit b u e
  ·exact nit c _ z
theorem Inv.turnedNew{t':Nat}{ch:List Addr}{T:Addr}{o:HO}(I:Inv X aa σ H s)(k:∀b u,b∉ch->s.heap.get? b=some u->h'.get? b=some u)(hf:∀b∈ch,jb X aa H b)(hT:s.heap.objs.size<=T)
  (ok:bF X.prog X.w (upd H T o) h' T o):Inv X aa σ (upd H T o) {s with heap:=h',toks:=t'}:=by
 have nit:∀b u,H b=some u->b∉ch:=fun b u e z=>by rw[(hf b z).1]at e;cases e
 have EZ:H T=none:=I.hok.fresh hT;have hokT:HOk X.prog X.w (upd H T o) h':=fun b u q=>by
  by_cases hb:b=T
  ·subst hb;rw[aj]at q;cases q;exact ok
  ·rw[aG hb]at q;refine (I.hok b u q).stay (fun c v hc' z=>k c v ?_ z) (fun c z=>by rw[aG (a9 z EZ)];exact z) fun c xs z=>by rw[aG (a9 z EZ)];exact z
   rcases hc' with rfl|hc'
   ·exact nit _ _ q
   ·exact nit _ _ hc'
 refine I.step (g':=s.gens) (d':=s.drawn) (ch:=ch) (fun b hb=>?_) (fun b o _ _ hc' q _=>k b o hc' q) (fun b o _ _ hc' q _=>⟨o.slots,k b o hc' q⟩) (fun b o hc' q n=>?_) (fun b o hc' q=>⟨o,k b o hc' q⟩)
  (fun b xs q=>by rw[aG (a9 q EZ)];exact q) (fun b o u q=>by rw[aG (a9 q EZ)];exact q) (fun b ps q=>⟨#[],by rw[aG (a9 q EZ),q];simp⟩) (fun m hm=>?_) hokT I.bare
 ·obtain⟨f0,f1,f2,f3,f4,f5⟩:=hf b hb;exact⟨f3,f1,f4,f5⟩
 ·rw[aG (Nat.ne_of_lt (Nat.lt_of_lt_of_le (Z_ q) hT))];exact n
 ·obtain⟨o,Es,ep,ho,r⟩:=hm;exact⟨o,Es,ep,k _ o (fun z=>(hf _ z).2.1 rfl) ho,r⟩
end
noncomputable def Itz(K:Z3)(a b:Addr):It:=
 ⟨fun i H=>∃xs ys x y,SqL K H a xs/\SqL K H b ys/\xs[i]?=some x/\ys[i]?=some y,fun i H x H'=>∃T v w,x=.ref T/\H T=none/\H'=upd H T (.tup [v,w])/\(∀xs,SqL K H a xs->xs[i]?=some v)/\∀ys,SqL K H b ys->ys[i]?=some w,
  fun i H=>∃xs ys,SqL K H a xs/\SqL K H b ys/\(xs.length<=i\/ys.length<=i)⟩
theorem yW{P:Zv}{w:Zl}{K:Z3}{es:List ZN}{k:Nat}{pos:Pos}(a b z TI TO i1 i2:Addr)(D:WF z TI TO i1 i2 a b):
  ow P w K (.Tuple es k pos) (Itz K a b) [z,TI,TO,i1,i2] z (fun i h=>IsZip h z TI TO .none/\Xy h TI (.ref i1) (.ref i2)/\(∃p q,Xy h TO p q)/\h.IsListIter i1 a i/\h.IsListIter i2 b i) where
 mem:=by simp
 obj:=fun i h st c hb=>by
  obtain⟨hz,EV,⟨p,q,EW⟩,⟨o1,ho1,hc1,hd1⟩,⟨o2,ho2,hc2,hd2⟩⟩:=st;simp only[Zz,Zr,or_false]at hb;rcases hb with rfl|rfl|rfl|rfl|rfl
  ·exact⟨_,hz,fun v z=>by cases z⟩
  ·exact⟨_,EV,fun v z=>by cases z⟩
  ·exact⟨_,EW,fun v z=>by cases z⟩
  ·exact⟨o1,ho1,fun v z=>by rw[hd1]at z;cases z⟩
  ·exact⟨o2,ho2,fun v z=>by rw[hd2]at z;cases z⟩
 keep:=fun i h h' st k=>by
  obtain⟨hz,EV,⟨p,q,EW⟩,h1,h2⟩:=st;exact⟨k z (by simp) _ hz,k TI (by simp) _ EV,⟨p,q,k TO (by simp) _ EW⟩,h1.at fun o e=>k i1 (by simp) o e,h2.at fun o e=>k i2 (by simp) o e⟩
 item:=by
  intro X hP hw hK hc i aa s σ H E I hf st hg;subst hP hw hK;obtain⟨xs,ys,x,y,hq1,hq2,hx,hy⟩:=hg;obtain⟨hz,EV,⟨p,q,EW⟩,h1,h2⟩:=st;obtain⟨its1,rv1,p1,hz1⟩:=I.list hq1;obtain⟨its2,rv2,p2,hz2⟩:=I.list hq2;obtain⟨u1,hu1,ru1⟩:=rv1.get hx;obtain⟨u2,hu2,ru2⟩:=rv2.get hy;refine VN D hz EV EW h1 h2 p1.isList p2.isList (x:=u1) (y:=u2) (by simpa using hu1) (by simpa using hu2) fun h' a1 a2 a3 a4 a5 a6 a7=>?_
  refine⟨_,rfl,?_⟩;refine wpAny_letOwnedTupleGo_zip a1 fun h'' b1 b2=>?_;have zlt:z<s.heap.objs.size:=Z_ hz;have kp:∀c o,c∉[z,TO,i1,i2]->s.heap.get? c=some o->h''.get? c=some o:=fun c o hb q=>by
   simp only[Zz,Zr,or_false,W6]at hb;exact b2.extBut c o hb.1 (a7 c o hb.1 hb.2.1 hb.2.2.1 hb.2.2.2 q)
  have EZ:H s.heap.objs.size=none:=I.hok.fresh (Nat.le_refl _);have aT:h''.get? s.heap.objs.size=some {cls:=.type "tuple",data:=.seq #[u1,u2]}:=b2.extBut _ _ (Nat.ne_of_gt zlt) a5;have okT:bF X.prog X.w (upd H s.heap.objs.size (.tup [x,y])) h'' s.heap.objs.size (.tup [x,y]):=
   ⟨by show 2<=sizeLine;decide,[u1,u2],.cons ru1 (.cons ru2 .nil),⟨_,aT,rfl,_,rfl⟩⟩
  have I1:=I.turnedNew (t':=s.toks) (ch:=[z,TO,i1,i2]) (T:=s.heap.objs.size) (o:=.tup [x,y]) kp (fun c hc'=>hf c (by
   simp only[Zz,Zr,or_false]at hc' ⊢;rcases hc' with r|r|r|r<;>simp[r])) (Nat.le_refl _) okT
  refine⟨.ref s.heap.objs.size,_,I1,rfl,⟨_,x,y,rfl,EZ,rfl,fun zs hy'=>by rw[I.list_inj hy' hq1];exact hx,fun zs hy'=>by rw[I.list_inj hy' hq2];exact hy⟩,
   ⟨b1,b2.extBut _ _ D.TIz (a7 _ _ D.TIz D.TITO D.TIi1 D.TIi2 EV),⟨_,_,b2.extBut _ _ D.TOz a2⟩,a3.extBut b2.extBut D.i1z,a4.extBut b2.extBut D.i2z⟩,fun c hb=>?_⟩
  have hb':c<s.heap.objs.size:=by
   simp only[Zz,Zr,or_false]at hb;rcases hb with rfl|rfl|rfl|rfl|rfl
   ·exact zlt
   ·exact Z_ EV
   ·exact Z_ EW
   ·obtain⟨o,ho,_⟩:=h1;exact Z_ ho
   ·obtain⟨o,ho,_⟩:=h2;exact Z_ ho
  rw[aG (Nat.ne_of_lt hb')];exact (hf c hb).1
 done:=by
  intro X hP hw hK hc i aa s σ H E I hf st hg;subst hP hw hK;obtain⟨xs,ys,hq1,hq2,hx⟩:=hg;obtain⟨hz,EV,⟨p,q,EW⟩,h1,h2⟩:=st;obtain⟨its1,rv1,p1,hz1⟩:=I.list hq1;obtain⟨its2,rv2,p2,hz2⟩:=I.list hq2;have l1:=rv1.length;have l2:=rv2.length;refine U1 (I.ok.hd hc) D hz EV EW h1 h2 p1.isList p2.isList (by
   rcases hx with e|e
   ·left;simp;lia
   ·right;simp;lia) fun h' kp=>⟨rfl,I.turnedL (t':=s.toks) (ch:=[z,TO,i1,i2]) (fun c o hb e=>?_) fun c hc'=>hf c (by
    simp only[Zz,Zr,or_false]at hc' ⊢;rcases hc' with r|r|r|r<;>simp[r])⟩
  simp only[Zz,Zr,or_false,W6]at hb;exact kp c o hb.1 hb.2.1 hb.2.2.1 hb.2.2.2 e
 self:=fun _ _ _ _ _ st h=>by
  obtain⟨hz,_⟩:=st;exact Vl hz h
section
variable{X:Cx}
noncomputable def iZip(K:Z3)(ta:TA):TI:=fun σ H R=>ta σ H fun vs H1=>∃a b,vs=[.ref a,.ref b]/\(∃xs,SqL K H1 a xs)/\(∃ys,SqL K H1 b ys)/\R (Itz K a b) H1
theorem C1{es:List ZN}{k:Nat}{Fb:Pos}{l m:ZN}{ta:TA}{p pos:Pos}(hg:Gl X "zip")(hm:X.mg "zip" = none)(ha:PA X [l,m] ta)(hs:Zp [l,m] X.env=(false,eval l X.env)::Zp [m] X.env:=by rfl)(Fv:(backTo pos (Zp [m] X.env)).any (·.1)=false:=by rfl):
  PI X (.Tuple es k Fb) (.Call (.Name "zip" p) [l,m] [] pos) (iZip X.K ta):=by
 intro aa s σ H R I h;refine Call_ (fG I hg hm boot_zip (ZV (thn (ha pos aa s σ H _ I h) fun us s1 zz=>?_) hs Fv));obtain⟨vs,H1,I1,r1,q1⟩:=zz;obtain⟨a,b,rfl,⟨xs,hx⟩,⟨ys,hy⟩,q⟩:=q1;obtain⟨u,v,rfl,ra,rb⟩:=vals2 r1;cases ra;cases rb;obtain⟨ix,rx,px,zx⟩:=I1.list hx;obtain⟨iy,ry,py,zy⟩:=I1.list hy;have al:a<s1.heap.objs.size:=by obtain⟨o,ho,_⟩:=px.isList;exact Z_ ho
 have bl:b<s1.heap.objs.size:=by obtain⟨o,ho,_⟩:=py.isList;exact Z_ ho
 refine call_zip_2 px.isList py.isList fun h' a1 a2 a3 a4 a5 a6 a7=>?_;refine Vl a1 ?_;have I2:Inv X aa σ H1 {s1 with heap:=h'}:=I1.kept (t':=s1.toks) a7
 have lt:∀{x y:Addr},x<y->x≠y:=fun h=>Nat.ne_of_lt h;have gt:∀{x y:Addr},y<x->x≠y:=fun h=>Nat.ne_of_gt h;have n1:s1.heap.objs.size<s1.heap.objs.size+1:=Nat.lt_succ_self _;have n2:s1.heap.objs.size+1<s1.heap.objs.size+2:=Nat.lt_succ_self _;have n3:s1.heap.objs.size+2<s1.heap.objs.size+3:=Nat.lt_succ_self _;have n4:s1.heap.objs.size+3<s1.heap.objs.size+4:=Nat.lt_succ_self _;have n02:=Nat.lt_trans n1 n2;have n03:=Nat.lt_trans n02 n3;have n04:=Nat.lt_trans n03 n4;have n13:=Nat.lt_trans n2 n3;have n14:=Nat.lt_trans n13 n4;have n24:=Nat.lt_trans n3 n4;have D:WF (s1.heap.objs.size+4) (s1.heap.objs.size+2) (s1.heap.objs.size+3) s1.heap.objs.size (s1.heap.objs.size+1) a b:=
  ⟨lt n24,lt n4,lt n04,lt n14,lt n3,gt n02,gt n2,gt n03,gt n13,lt n1,lt (Nat.lt_trans al n04),lt (Nat.lt_trans al n03),lt al,lt (Nat.lt_trans al n1),lt (Nat.lt_trans bl n04),lt (Nat.lt_trans bl n03),lt bl,lt (Nat.lt_trans bl n1)⟩
 refine⟨s1.heap.objs.size+4,[s1.heap.objs.size+4,s1.heap.objs.size+2,s1.heap.objs.size+3,s1.heap.objs.size,s1.heap.objs.size+1],_,_,H1,rfl,I2,yW a b _ _ _ _ _ D,⟨a1,a2,⟨_,_,a3⟩,a4,a5⟩,fun c hb=>?_,q⟩;have hc:s1.heap.objs.size<=c:=by
  simp only[Zz,Zr,or_false]at hb;rcases hb with rfl|rfl|rfl|rfl|rfl
  ·exact Nat.le_of_lt n04
  ·exact Nat.le_of_lt n02
  ·exact Nat.le_of_lt n03
  ·exact Nat.le_refl _
  ·exact Nat.le_of_lt n1
 exact I1.fpOk hc (I1.hok.fresh hc)
end
end L2
end
section
namespace FS
open PySem PySem.SetTable
section
variable{prog:Zv}{w:Zl}{A:ZK}{E:Value->Shared->Prop}{s:Shared}
structure IOk(prog:Zv)(w:Zl)(h:ZF)(a:Addr)(o:Obj)(es:Array (Int×Value))(ep:Nat)(t:ZX)(S:Int->Bool):Prop where
 ho:h.get? a=some o
 ex:o.ExactSet
 hd:o.data=.set es ep t
 el:ElemsOf (ZP prog w) es.toList
 mem:∀k,S k=true↔∃e∈es.toList,(ZP prog w).is k e.2=true
 nd:es.toList.Pairwise fun x y=>∀k,¬((ZP prog w).is k x.2=true/\(ZP prog w).is k y.2=true)
 sz:t.place.size=es.size
 ok:TOk t (b9 es)
 h7:t.mask=7->es.size<=4
 pl:t.plain=true
 ld:t.led=!w.params.followText "set-order"
theorem IOk.fits{h:ZF}{a:Addr}{o:Obj}{es:Array (Int×Value)}{ep:Nat}{t:ZX}{S:Int->Bool}(T:IOk prog w h a o es ep t S):t.fits es.size=true:=by
 unfold Uy WA;rw[T.ok.dm,T.sz]
 have:=T.ok.sz
 rw[T.sz]at this;simp;exact this
theorem u9{t:ZX}{hs:Nat->Int}(ok:TOk t hs){n:Nat}(hn:t.place.size=n):t.fits n=true:=by
 unfold Uy WA;rw[ok.dm,hn]
 have:=ok.sz
 rw[hn]at this;simp;exact this
theorem oP{t:ZX}{hs:Nat->Int}(ok:TOk t hs):t.fill=t.place.size:=by
 unfold WA;rw[ok.dm];rfl
theorem ud{t:ZX}{hs:Nat->Int}(ok:TOk t hs)(h:Int):∃k,t.freeSlot h=some ((pt t.mask h k).j,false)/\¬Occ t (pt t.mask h k).j/\∀k',k'<k->Occ t (pt t.mask h k').j:=by
 obtain⟨K,FG,hK⟩:=ok.free h;obtain⟨m,hm,M⟩:=lJ (hs:=fun _=>h+1) ok h K hK FG (Nat.zero_le K);have e0:t.probeStart h=pt t.mask h 0:=Au t h;cases M with
 |free k2 h1 h2 h3=>
  refine⟨k2,?_,h2,fun k' hk'=>?_⟩
  ·unfold SetTable.freeSlot;rw[e0,hm];rfl
  ·obtain⟨i,hi,e,_⟩:=h3 k' (Nat.zero_le _) hk';exact⟨i,hi,e⟩
 |cand k2 i h1 h2 h3 h4 h5=>exfalso;have h4:h+1=h:=h4;lia
theorem xR{t:ZX}{es:Array (Int×Value)}(ok:TOk t (b9 es))(sz:t.place.size=es.size)(hsz:t.place.size+1<=t.mask)(h:Int)(x:Value):
  ∃Es t',layNew t es h x=(Es,t',false,false)/\t'.place.size=Es.size/\Es.size=es.size+1/\TOk t' (b9 Es)/\t'.mask=t.mask/\t'.plain=t.plain/\t'.led=t.led:=by
 obtain⟨k,f1,f2,f3⟩:=ud ok h;have hj:=nC (mask:=t.mask) h k;have ok':=ok.put (h:=h) f2 f3 (by lia) hsz
 have pp:=kg ok (pt t.mask h k).j;have bs:=fI ok.ri (pt t.mask h k).j;have p2:(t.put (pt t.mask h k).j).2=below t.place (pt t.mask h k).j:=rfl;generalize (pt t.mask h k).j=j at *
 have hp:below t.place j<=es.size:=by rw[<-sz];exact bs.1
 have isz:=dR es (below t.place j) (h,x) hp;have psz:(t.put j).1.place.size=es.size+1:=by
  rw[pp];show (insertAt t.place (below t.place j) j).size=_;rw[dR _ _ _ bs.1,sz]
 refine⟨insertAt es (below t.place j) (h,x),(t.put j).1,?_,by rw[psz,isz],isz,by rw[j_ es _ hp];exact ok',by rw[pp],by rw[pp],by rw[pp]⟩
 unfold layNew;rw[f1];have fit:(t.put j).1.fits (es.size+1)=true:=u9 ok' psz;show (insertAt es (t.put j).2 (h,x),(t.put j).1.orStandIn (insertAt es (t.put j).2 (h,x)).size,false,!(t.put j).1.fits (insertAt es (t.put j).2 (h,x)).size)=_;rw[p2,isz,fit];unfold SetTable.orStandIn;rw[if_pos fit];rfl
theorem CQ{order:Array Nat}{n:Nat}(p2:order.size=n)(p6:∀i,i<n->order.getD i 0<n)(p7:∀a,a<n->∃i,i<n/\order.getD i 0=a)(p8:∀i k,i<n->k<n->order.getD i 0=order.getD k 0->i=k):coversAll order n=true:=by
 unfold coversAll;rw[List.isPerm_iff];have gd:∀i,i<n->order.toList[i]?=some (order.getD i 0):=fun i hi=>by
  rw[Y4,Zc,Zb (by lia)];rfl
 have nd:order.toList.Nodup:=by
  refine W2.mpr fun i j hi hj hij e=>?_;have g1:=gd i (by rw[ZG]at hi;lia)
  have g2:=gd j (by rw[ZG]at hj;lia)
  rw[Z2 hi]at g1;rw[Z2 hj,<-e,g1]at g2;rw[ZG]at hi hj
  have:=p8 i j (by lia) (by lia) (by simpa using g2)
  lia
 rw[List.perm_ext_iff_of_nodup nd List.nodup_range];intro a;rw[Zy];constructor
 ·intro ha;obtain⟨i,hi,e⟩:=Xk.mp ha;rw[ZG,p2]at hi
  have:=gd i hi
  rw[Z2 (by rw[ZG];lia),e]at this
  have e2:a=order.getD i 0:=by simpa using this
  rw[e2];exact p6 i hi
 ·intro ha;obtain⟨i,hi,e⟩:=p7 a ha
  have:=gd i hi
  rw[e]at this;exact WC this
theorem tY{t:ZX}{es:Array (Int×Value)}{wanted:Nat}(hw:sizeAbove wanted-1=31)(hn:es.size<=31):
  ∃Es t',relayAll t es wanted=(Es,t',false)/\t'.place.size=Es.size/\Es.size=es.size/\TOk t' (b9 Es)/\t'.mask=31/\t'.plain=t.plain/\t'.led=t.led:=by
 obtain⟨t',order,e1,p1,p2,p3,p4,p5,p6,p7,p8,p9⟩:=pW (t:=t) (hashes:=es.map (·.1)) (wanted:=wanted) hw (by rw[WZ];exact hn)
 rw[WZ]at p1 p2 p6 p7 p8;obtain⟨fs,fg⟩:=iU p2 p6;have cv:=CQ p2 p6 p7 p8;have same:∀i,i<t'.place.size->b9 (order.filterMap (es[·]?)) i=(es.map (·.1)).getD (order.getD i 0) 0:=by
  intro i hi;unfold b9;rw[fg i (by lia)]
  generalize order.getD i 0=z;rw[Zc,Uo]
 have ok':TOk t' (b9 (order.filterMap (es[·]?))):=⟨p9.dm,p9.ri,p9.le,p9.mm,p9.sz,fun i hi=>by rw[same i hi];exact p9.rc i hi⟩
 refine⟨order.filterMap (es[·]?),t',?_,by rw[p1,fs],fs,ok',p3,p5,p4⟩
 unfold relayAll;rw[e1];have fit:t'.fits (order.filterMap (es[·]?)).size=true:=u9 ok' (by rw[p1,fs])
 simp only;rw[cv,fit];rfl
theorem oF{x y:Int×Value}(h:∀k,¬((ZP prog w).is k x.2=true/\(ZP prog w).is k y.2=true)):∀k,¬((ZP prog w).is k y.2=true/\(ZP prog w).is k x.2=true):=fun k z=>h k ⟨z.2,z.1⟩
theorem Bm{a:Addr}{o:Obj}{es:Array (Int×Value)}{ep:Nat}{t:ZX}{S:Int->Bool}(T:IOk prog w s.heap a o es ep t S)(h14:es.size<=14){k:Int}{tk:Tok}{Q:Bool->Shared->Prop}
  (h:∀h' o' Es ep' t',X9 a s.heap h'->IOk prog w h' a o' Es ep' t' (fun k'=>S k'||decide (k'=k))->Es.size<=es.size+1->Q (!S k) {s with heap:=h'}):
  Zq (model prog w) A (setAddHashed a (.int k tk) ((ZP prog w).hash k)) Q E s:=by
 have hkey:(ZP prog w).is k (.int k tk)=true:=Va _ _ _ _;have hb:es.size<scanBound:=by unfold scanBound;lia
 unfold setAddHashed setAddHashedIn;refine Yj (Z1 (YF T.ho T.hd T.fits ?_));dsimp only;rw[byScan_of (knd:=ZP prog w) rfl hb T.el];simp only[↓reduceIte];unfold setAddByScan;refine Z1 ?_;refine Z1 (T8 ?_);refine Z1 (wpAny_setScan_of hkey T.ho T.hd T.fits T.el ?_);cases hr:List.findIdx? (fun e=>(ZP prog w).is k e.2) es.toList with
 |some j=>
  dsimp only;obtain⟨hj,hpj,_⟩:=List.findIdx?_eq_some_iff_getElem.mp hr;have hSk:S k=true:=(T.mem k).mpr ⟨es.toList[j],YC hj,hpj⟩;refine Z7 (Z7 ?_);have e:s={s with heap:=s.heap}:=by cases s;rfl
  have:=h s.heap o es ep t (V8 a s.heap) ⟨T.ho,T.ex,T.hd,T.el,fun k'=>by
   rw[Xp,decide_eq_true_eq,<-T.mem k'];exact⟨fun hk=>hk.elim id (fun e=>e ▸ hSk),.inl⟩,T.nd,T.sz,T.ok,T.h7,T.pl,T.ld⟩ (by lia)
  rw[hSk]at this;rw[e];exact this
 |none=>
  dsimp only;have hSk:S k=false:=by
   cases hk:S k with
   |false=>rfl
   |true=>obtain⟨e,he,hp⟩:=(T.mem k).mp hk;have:=V5.mp hr e he;rw[hp]at this;exact ZM this
  have hsz:t.place.size+1<=t.mask:=by
   rw[T.sz];rcases T.ok.mm with e|e
   ·have:=T.h7 e;lia
   ·lia
  obtain⟨es1,t1,eL,q1,q2,q3,q4,q5,q6⟩:=xR T.ok T.sz hsz ((ZP prog w).hash k) (.int k tk);have hperm:=layNew_perm t es ((ZP prog w).hash k) (.int k tk);rw[eL]at hperm ⊢;dsimp only at hperm ⊢;rw[UB]at hperm;have hel1:ElemsOf (ZP prog w) es1.toList:=(T.el.push hkey rfl).perm hperm;have hmem1:∀k',(S k'||decide (k'=k))=true↔∃e∈es1.toList,(ZP prog w).is k' e.2=true:=mem_push_iff hkey T.mem hperm;have hnd0:(es.toList++[((ZP prog w).hash k,Value.int k tk)]).Pairwise fun x y=>∀k,¬((ZP prog w).is k x.2=true/\(ZP prog w).is k y.2=true):=by
   rw[List.pairwise_append];refine⟨T.nd,List.pairwise_singleton _ _,fun x hx y hy k' z=>?_⟩;rw[Zj]at hy;subst hy;have ek:=(ZP prog w).inj _ k' k z.2 hkey;subst ek
   have:=V5.mp hr x hx
   rw[z.1]at this;exact ZM this
  have hnd1:es1.toList.Pairwise fun x y=>∀k,¬((ZP prog w).is k x.2=true/\(ZP prog w).is k y.2=true):=(Wl (fun h=>oF h) hperm).mpr hnd0;refine Z1 (Z7 (a:=()) ?_);have EC:t1.plain=true:=by rw[q5];exact T.pl
  rw[if_pos EC];refine Z1 ?_;rw[hashByValue_scannable 8 (x:=Value.int k tk) rfl];refine Z7 ?_;have pk:plainKind (Value.int k tk)=true:=rfl;rw[pk];simp only[↓reduceIte];have FO:es1.size<scanBound:=by unfold scanBound;lia
  refine Z1 (Wm T.ho T.hd ?_ (UC FO));have hsb1:=W5 s.heap a (Wg es1 t1);have ho1:=i8 T.ho T.hd es1 t1;by_cases full:t1.tooFull=true
  ·have m7:t1.mask=7:=by
    rcases q3.mm with e|e
    ·exact e
    ·exfalso;unfold Xb at full;rw[oP q3,q1,q2,e]at full;simp at full;lia
   have s5:es1.size=5:=by
    have:=T.h7 (by rw[<-q4];exact m7)
    unfold Xb at full;rw[oP q3,q1,m7]at full;simp at full;lia
   obtain⟨es2,t2,eR,r1,r2,r3,r4,r5,r6⟩:=tY (t:=t1) (es:=es1) (wanted:=VY es1.size) (by rw[s5];decide) (by lia)
   have hp2:=relayAll_perm t1 es1 (VY es1.size);rw[eR]at hp2;dsimp only at hp2;rw[if_pos (by rw[full];rfl),eR]
   dsimp only;refine Z1 (Z7 (a:=()) ?_);have hb2:es2.size<scanBound:=by unfold scanBound;lia
   refine Z1 (Wm ho1 rfl ?_ (UC hb2));have hsb2:=hsb1.trans (W5 _ a (Wg es2 t2));have ho2:=i8 ho1 rfl es2 t2;refine Z7 (Z7 ?_);have hh:=h _ _ es2 _ t2 hsb2 ⟨ho2,T.ex,rfl,hel1.perm hp2,fun k'=>(hmem1 k').trans ⟨fun ⟨e,he,q⟩=>⟨e,hp2.mem_iff.mpr he,q⟩,fun ⟨e,he,q⟩=>⟨e,hp2.mem_iff.mp he,q⟩⟩,(Wl (fun h=>oF h) hp2).mpr hnd1,r1,r3,(fun z=>by rw[r4]at z;exact absurd z (by decide)),by rw[r5];exact EC,by rw[r6,q6];exact T.ld⟩ (by lia)
   rw[hSk]at hh;exact hh
  ·rw[if_neg (by rw[Yq.mpr full];exact Zm)]
   refine Z7 (Z7 ?_);have hh:=h _ _ es1 _ t1 hsb1 ⟨ho1,T.ex,rfl,hel1,hmem1,hnd1,q1,q3,fun z=>?_,EC,by rw[q6];exact T.ld⟩ (by lia)
   ·rw[hSk]at hh;exact hh
   ·unfold Xb at full;rw[oP q3,q1,z]at full;simp at full;lia
end
end FS
end
section
namespace FS
open PySem PySem.SetTable
section
variable{prog:Zv}{w:Zl}{A:ZK}{R:VT->Shared->Prop}{I:Addr}{fp wr:List Addr}{G:Array Wt->Array Wt->Prop}{n:Nat}{P:Nat->Value->Prop}{St:Nat->Shared->Prop}
noncomputable def inB(val:Nat->Int)(n:Nat)(k:Int):Bool:=(Z4 n).any fun j=>decide (k=val j)
theorem Aq(val:Nat->Int)(n:Nat)(k:Int):(inB val n k||decide (k=val n))=inB val (n+1) k:=by
 unfold inB;rw[Ye,List.any_append,Vu,List.any_nil,WB]
noncomputable def l6(prog:Zv)(w:Zl)(h:ZF)(a:Addr)(val:Nat->Int)(n:Nat):Prop:=∃o es ep t,IOk prog w h a o es ep t (inB val n)/\es.size<=n
theorem IOk.at{h h':ZF}{a:Addr}{o:Obj}{es:Array (Int×Value)}{ep:Nat}{t:ZX}{S:Int->Bool}(T:IOk prog w h a o es ep t S)(k:h.get? a=some o->h'.get? a=some o):IOk prog w h' a o es ep t S:=
 ⟨k T.ho,T.ex,T.hd,T.el,T.mem,T.nd,T.sz,T.ok,T.h7,T.pl,T.ld⟩
theorem zh(W:WalksS prog w A.in1 I fp wr G n P St)(S:Addr)(EU:S∉fp)(val:Nat->Int)(FI:∀i v,P i v->∃t,v=.int (val i) t)(hn:n<=14):
  ∀(k i:Nat) (s:Shared),n-i=k->i<=n->St i s->l6 prog w s.heap S val i->
   (∀s',T0 (S::wr) G s s'->l6 prog w s'.heap S val n->R (.ok (.ret .none)) s')->
   Xd (model prog w) A (.builtin "set.update.loop" ⟨[.ref S,.ref I],[]⟩) R s:=by
 have hSw:S∉wr:=fun h=>EU (W.sub _ h);have hsub:∀b∈wr,b∈S::wr:=fun b hb=>Zo _ hb;intro k
 induction k with
 |zero=>
  intro i s hk hi EA hS hR;have hin:i=n:=by lia
  subst hin;refine Yk YE ?_;rw[Yp Y6 _];show Zq _ A.in1 (pyNext (.ref I)>>=_) _ _ s;refine Z1 (W.done s _ _ EA fun s' hm=>?_);show Zq _ A.in1 (ret Value.none) _ _ s';refine Z7 (hR s' (hm.mono hsub) ?_);obtain⟨o,es,ep,t,T,hz⟩:=hS;exact⟨o,es,ep,t,T.at fun e=>hm.heap S _ hSw e,hz⟩
 |succ k ih=>
  intro i s hk hi EA hS hR;have Eu:i<n:=by lia
  refine Yk YE ?_;rw[Yp Y6 _];show Zq _ A.in1 (pyNext (.ref I)>>=_) _ _ s;refine Z1 (W.item i s _ _ Eu EA fun v s' hP hst' hm=>?_);obtain⟨tk,rfl⟩:=FI i v hP;obtain⟨o,es,ep,t,T,hz⟩:=hS;have T':IOk prog w s'.heap S o es ep t (inB val i):=T.at fun e=>hm.heap S _ hSw e;show Zq _ A.in1 (holding [Value.int (val i) tk] (setAdd S (.int (val i) tk))>>=_) _ _ s';refine Z1 (Yj ?_);unfold setAdd;refine Yj ?_;refine Z1 ((ZP prog w).pyHash (k:=val i) (Va _ _ _ _) ?_);refine Bm (s:={s' with toks:=s'.toks+1}) T' (by lia) fun h' o' Es ep' t' hsb T2 hz2=>?_
  have hSi:l6 prog w h' S val (i+1):=by
   refine⟨o',Es,ep',t',?_,by lia⟩
   have e:(fun k'=>inB val i k'||decide (k'=val i))=inB val (i+1):=funext fun k'=>Aq val i k';rw[e]at T2;exact T2
  refine Z7 ⟨Xi Y6 _,ih (i+1) _ (by lia) Eu (W.frame _ s' _ _ hst' (Nat.le_succ _) fun b hb o e=>?_) hSi fun EX hm'' hS''=>?_⟩
  ·rw[hsb.2 b (fun h:b=S=>EU (by rw[<-h];exact hb))];exact e
  ·refine hR EX (Moved.trans W.gtrans ((hm.mono hsub).then_heap (Nat.le_succ _) fun b o hb e=>?_) hm'') hS'';rw[hsb.2 b (fun h:b=S=>hb (by rw[h];exact Za))];exact e
end
section
variable{prog:Zv}{w:Zl}{A:ZK}{E:Value->Shared->Prop}{s:Shared}
theorem tU(a:Value){Q₁:Value->Shared->Prop}
  (h:Q₁ (.ref s.heap.objs.size) {s with heap:=s.heap.push {cls:=.type "set",dict:=none,data:=.set #[] 0 (.fresh 0 0 (!w.params.followText "set-order"))}}):
  Xd (model prog w) A (.call (.builtin "set.__new__") ⟨[.type "set",a],[]⟩) (wants Q₁ E) s:=by
 refine VE ?_;show Zq _ A.in1 (do checkBuiltinCall "set.__new__" ⟨[.type "set",a],[]⟩;again (.builtin "set.__new__" ⟨[.type "set",a],[]⟩)) _ _ s
 refine Z1 (VX (F.newCall_set_1 a) (Z7 ⟨Xi F.plain_set_new _,Yk F.entry_set_new ?_⟩));rw[Yp F.plain_set_new _];unfold XC.«set.__new__» Ty;have hsub:=sub_set_self;obtain⟨hp,g,d,tk,os⟩:=s;dsimp only
 wp_walk
 refine W1 (Z7 ?_);dsimp only;simp only[newObj];refine Z1 (wpAny_alloc (Z7 ?_));exact Z7 h
theorem vk{h:ZF}{S:Addr}(val:Nat->Int)(ho:h.get? S=some {cls:=.type "set",dict:=none,data:=.set #[] 0 (.fresh 0 0 (!w.params.followText "set-order"))}):l6 prog w h S val 0:=
 ⟨_,#[],0,_,⟨ho,⟨rfl,rfl,rfl⟩,rfl,fun e he=>by simp at he,fun k=>by simp[inB],by simp,rfl,pY _ _ _ _,fun _=>by simp,rfl,rfl⟩,Nat.le_refl _⟩
set_option maxHeartbeats 3200000 in
theorem g8{l:Addr}{items:Array Value}{val:Nat->Int}{Q:Value->Shared->Prop}
  (hh:A.handled=none)(hl:s.heap.IsList l items)(hn:items.size<=14)(hi:∀(i:Nat) v,items[i]?=some v->∃t,v=.int (val i) t)
  (h:∀(h':ZF) (tk:Nat),l6 prog w h' s.heap.objs.size val items.size->(∀b o,b<s.heap.objs.size->s.heap.get? b=some o->h'.get? b=some o)->Q (.ref s.heap.objs.size) {s with heap:=h',toks:=tk}):
  Zq (model prog w) A (call (.type "set") [.ref l]) Q E s:=by
 obtain⟨c,tl,hmro⟩:=F.called_set.mro;have hmade:=F.called_set.made;have hsub:=F.called_set.sub;refine Vh (VE ?_);show Zq _ _ (callAny (.type "set") _) _ _ _;refine Z7 ⟨V0 _ (by decide +kernel),Yk F.entry_type_call ?_⟩
 rw[Um (VM "set" [.ref l] []) rfl];have h1:=F.called_set.notType;have h2:=F.called_set.canCreate;have hct:=F.typeCall_set_1 (.ref l)
 repeat (any_goals (first|assumption|wp_step))
 refine X_ (tU (.ref l) (E:=E) (Q₁:=fun obj s₁=>∃led:Bool,led=(!w.params.followText "set-order")/\obj=.ref s.heap.objs.size/\s₁={s with heap:=s.heap.push {cls:=.type "set",dict:=none,data:=.set #[] 0 (.fresh 0 0 led)}}) ⟨_,rfl,rfl,rfl⟩) fun r s₁ hr=>?_
 cases r with
 |error e=>exact hr
 |ok fl=>
  cases fl with
  |ret obj=>
   obtain⟨led,eled,rfl,rfl⟩:=hr;have hS:(s.heap.push {cls:=.type "set",dict:=none,data:=.set #[] 0 (.fresh 0 0 led)}).get? s.heap.objs.size=some {cls:=.type "set",dict:=none,data:=.set #[] 0 (.fresh 0 0 led)}:=Zk _ rfl;have hT:Shared.TypeIs {s with heap:=s.heap.push {cls:=.type "set",dict:=none,data:=.set #[] 0 (.fresh 0 0 led)}} (.ref s.heap.objs.size) "set" :=⟨_,hS,rfl⟩
   have hli:=F.called_set.init.lookup;have hbi:=F.called_set.init.bind (.ref s.heap.objs.size)
   repeat (any_goals (first|assumption|wp_step))
   refine X_ (XW (R:=wants (fun r s₂=>r=.none/\∃h' tk,s₂={s with heap:=h',toks:=tk}/\
     l6 prog w h' s.heap.objs.size val items.size/\
     (∀b o,b<s.heap.objs.size->s.heap.get? b=some o->h'.get? b=some o)) E) F.called_set.init.plain F.entry_set_init (UH hT ?_)) fun r₂ s₂ hr₂=>?_
   ·obtain⟨ol,hol,hcl,nl,hdl⟩:=hl;obtain⟨ocls,odict,odata,oslots⟩:=ol;simp only at hcl hdl;subst hcl;subst hdl;have hol':(s.heap.push {cls:=.type "set",dict:=none,data:=.set #[] 0 (.fresh 0 0 led)}).get? l=some {cls:=.type "list",dict:=odict,data:=.seq items nl,slots:=oslots}:=Z8 _ hol;have hsls:=F.sub_list_set;have hslf:=F.sub_list_frozenset;have EJ:(Value.type "list"==Value.type "dict")=false:=by decide
    have ES:(s.heap.push {cls:=.type "set",dict:=none,data:=.set #[] 0 (.fresh 0 0 led)}).IsList l items:=⟨_,hol',rfl,nl,rfl⟩;unfold XC.«set.__init__» noKeywords WI;generalize hPI:pyIter=PI
    wp_walk
    subst hPI;refine Xn ES ?_;refine Z1 (VZ ?_);have hlS:l<s.heap.objs.size:=Z_ hol;have hh3:A.in1.in1.in1.handled=none:=by simp[hh]
    have hneI:l≠(s.heap.push {cls:=.type "set",dict:=none,data:=.set #[] 0 (.fresh 0 0 led)}).objs.size:=by
     rw[Ys];exact Nat.ne_of_lt (Nat.lt_succ_of_lt hlS)
    have EU:s.heap.objs.size∉[(s.heap.push {cls:=.type "set",dict:=none,data:=.set #[] 0 (.fresh 0 0 led)}).objs.size,l]:=by
     rw[Ys];simp only[Zz,Zj,Zr,or_false,W6];exact⟨Nat.ne_of_lt (Nat.lt_succ_self _),Nat.ne_of_gt hlS⟩
    refine zh ((T4 hh3 _ l hneI items).toS) s.heap.objs.size EU val hi hn (items.size-0) 0 _ (by lia) (Nat.zero_le _)
     ⟨⟨_,Zk _ rfl,rfl,rfl⟩,(ES.push _)⟩ ?hS0 ?hR
    case hS0=>
     subst eled;exact vk val (Z8 _ hS)
    case hR=>
     intro s' hm hS';obtain⟨h',g',d',tk',os'⟩:=s';have eg:g'=s.gens:=hm.gens;have ed:d'=s.drawn:=hm.drawn;have eo:os'=s.os:=hm.os;subst eg;subst ed;subst eo;show Zq _ _ _ _ _ _;refine Z7 ?_;show Zq _ _ (ret Value.none) _ _ _;refine Z7 ⟨rfl,h',tk',rfl,hS',fun b o hb e=>?_⟩;have FO:b≠s.heap.objs.size:=Nat.ne_of_lt hb;have hb2:b≠(s.heap.push {cls:=.type "set",dict:=none,data:=.set #[] 0 (.fresh 0 0 led)}).objs.size:=by
      rw[Ys];exact Nat.ne_of_lt (Nat.lt_succ_of_lt hb)
     exact hm.heap b o (by simp only[Zz,Zj,Zr,or_false,W6];exact⟨FO,hb2⟩) (Z8 _ (Z8 _ e))
   ·cases r₂ with
    |error e=>exact hr₂
    |ok fl₂=>
     cases fl₂ with
     |ret r=>
      obtain⟨rfl,h',tk,rfl,hS',hk'⟩:=hr₂
      repeat (any_goals (first|assumption|wp_step))
      exact h _ _ hS' hk'
     |_=>exact hr₂.elim
  |_=>exact hr.elim
end
end FS
end
section
namespace FS
open PySem PySem.SetTable
theorem gZ:entryFor table "set_iterator.__next__" = some XC.«set_iterator.__next__»:=UI (by kernel_rfl)
theorem cU:Slot "set_iterator" "__next__" "set_iterator.__next__":=
 .of (owner := "set_iterator") (n := "__next__") (by rw[XG,YU];kernel_rfl) (by decide +kernel) (by decide +kernel) (by decide +kernel)
  (by first|exact .inl (by decide +kernel)|exact .inr (by decide +kernel)) (by rw[V1];kernel_rfl)
theorem hU(a:Value):argsOk "set_iterator.__next__" ⟨[a],[]⟩:=by unfold argsOk;kernel_rfl
theorem oX:entryFor table "set.__iter__" = some XC.«frozenset.__iter__»:=Tx (id' := "frozenset.__iter__") (by kernel_rfl) rfl (by decide +kernel) (by kernel_rfl)
theorem kQ:entryFor table "set_iterator.__iter__" = some XC.«dict_keyiterator.__iter__»:=by
 first
  |exact Tx (id' := "dict_keyiterator.__iter__") (by kernel_rfl) rfl (by decide +kernel) (by kernel_rfl)
  |exact UI (by kernel_rfl)
theorem hV:Slot "set_iterator" "__iter__" "set_iterator.__iter__":=
 .of (owner := "set_iterator") (n := "__iter__") (by rw[XG,YU];kernel_rfl) (by decide +kernel) (by decide +kernel) (by decide +kernel)
  (by first|exact .inl (by decide +kernel)|exact .inr (by decide +kernel)) (by rw[V1];kernel_rfl)
theorem lz(a:Value):argsOk "set_iterator.__iter__" ⟨[a],[]⟩:=by unfold argsOk;kernel_rfl
theorem v_{α:Type}{l:List α}{i:Nat}(h:i<l.length):(l[i]::l.eraseIdx i).Perm l:=by
 rw[List.eraseIdx_eq_take_drop_succ];have e:l=l.take i++l[i]::l.drop (i+1):=by rw[<-W4 h,ZC]
 conv=>rhs;rw[e]
 exact List.perm_middle.symm
theorem uz{α:Type}(next:Nat->Nat):∀(fuel k:Nat) (left:List α) (out:Array α),left.length<=fuel->(pickOrder.go next fuel k left out).toList.Perm (out.toList++left)
 |0,k,left,out,h=>by
  have:left=[]:=Yo (by lia)
  subst this;unfold pickOrder.go;rw[ZT]
 |fuel+1,k,left,out,h=>by
  unfold pickOrder.go;by_cases c:left=[]
  ·subst c;simp
  ·have hl:0<left.length:=WN.mpr c;have hi:next k%left.length<left.length:=Nat.mod_lt _ hl;rw[Z2 hi];simp only;refine (uz next fuel (k+1) _ _ (by rw[List.length_eraseIdx];split<;>lia)).trans ?_
   rw[UB,Y2,VS];exact (v_ hi).append_left _
theorem xV{α:Type}(next:Nat->Nat)(xs:Array α):(pickOrder next xs).toList.Perm xs.toList:=by
 have:=uz next xs.size 0 xs.toList #[] (by simp)
 simpa [pickOrder]using this
noncomputable def cV(w:Zl)(a:Addr)(ep:Nat)(es:Array (Int×Value)):Array (Int×Value):=if w.params.followText "set-order" = true then pickOrder (w.params.setOrder a ep) es else es
theorem nj(w:Zl)(a:Addr)(ep:Nat)(es:Array (Int×Value)):(cV w a ep es).toList.Perm es.toList:=by
 unfold cV;split
 ·exact xV _ _
 ·exact .rfl
theorem hZ(w:Zl)(a:Addr)(ep:Nat)(es:Array (Int×Value)):(cV w a ep es).size=es.size:=by
 rw[<-ZG,(nj w a ep es).length_eq,ZG]
noncomputable def slotAt(w:Zl)(t:ZX)(i:Nat):Nat:=if w.params.followText "set-order" = true then 0 else if i=0 then 0 else t.place.getD (i-1) 0+1
noncomputable abbrev gW(h:ZF)(I a:Addr)(slot i n ep:Nat):Prop:=h.get? I=some {cls:=.type "set_iterator",dict:=none,data:=.fields #[Yu slot,Yu i,.ref a,Yu n,Yu ep],slots:=#[]}
section
variable{prog:Zv}{w:Zl}{A:ZK}{E:Value->Shared->Prop}{s:Shared}{a:Addr}{o:Obj}{es:Array (Int×Value)}{ep:Nat}{t:ZX}{S:Int->Bool}
theorem tT{Q:Value->Shared->Prop}(T:IOk prog w s.heap a o es ep t S)
  (hQ:Q (.ref s.heap.objs.size) {s with heap:=s.heap.push {cls:=.type "set_iterator",dict:=none,data:=.fields #[Yu (0:Nat),Yu (0:Nat),.ref a,Yu es.size,Yu ep],slots:=#[]}}):
  Zq (model prog w) A (pyIter (.ref a)) Q E s:=by
 have hT:s.TypeIs (.ref a) "set" :=⟨o,T.ho,T.ex.1⟩;refine UD hT F.slot_set_iter (Xv F.slot_set_iter hT oX ?_ (F.args_set_iter_1 _));unfold XC.«frozenset.__iter__» TY slotArgs;simp only[Vj,YG,Zw,↓reduceIte,bind_assoc,YL,bne_self_eq_false];unfold TN TQ;refine Z1 (Z7 ?_);dsimp only;refine Z1 (Z7 ?_);refine Z1 (Z1 (WO T.ho T.hd T.fits (Z7 ?_)));unfold setDrawn setsByText;refine Z1 (Z1 (YF T.ho T.hd T.fits ?_));refine Z1 (Z1 (W1 (Z7 ?_)));refine Z7 ?_;show Zq _ _ (if (!w.params.followText "set-order"&&(!t.plain&&decide (es.size>1)))=true then _ else _) _ _ _
 rw[T.pl];simp only[YG,Xc,Wo,Zw,↓reduceIte];refine Z1 (Z7 ?_);refine Z1 (wpAny_setEpoch_of T.ho T.hd T.fits ?_);refine Z1 (XS (Z7 ⟨_,rfl,"set_iterator",_,⟨_,Zk _ rfl,rfl⟩,cU.lookup,hQ⟩))
theorem ww(T:IOk prog w s.heap a o es ep t S)(hb:w.params.followText "set-order" = false){i:Nat}(hi:i<=es.size):below t.place (slotAt w t i)=i:=by
 have bs:=fI T.ok.ri (slotAt w t i);have sz:=T.sz;unfold slotAt at bs ⊢;rw[hb]at bs ⊢;simp only[Zw,↓reduceIte]at bs ⊢;by_cases c:i=0
 ·subst c;simp only[↓reduceIte]at bs ⊢;apply Z9;intro k
  have:=bs.2.1 0 (by lia)
  lia
 ·rw[if_neg c]at bs ⊢;generalize e:below t.place (t.place.getD (i-1) 0+1)=b at *
  apply Z9;intro k;rcases Nat.lt_or_gt_of_ne k with k|k
  ·have:=bs.2.2 (i-1) (by lia) (by lia);lia
  ·have:=bs.2.1 i k
   have:=T.ok.ri (i-1) i (by lia) (by lia)
   lia
theorem kT(T:IOk prog w s.heap a o es ep t S){i:Nat}(hi:i<=es.size){Q:Option (Value×Nat)->Shared->Prop}
  (hQ:Q ((cV w a ep es)[i]?.map fun e=>(e.2,slotAt w t (i+1))) s):Zq (model prog w) A (setNext a (slotAt w t i) i ep) Q E s:=by
 unfold setNext setsByText;refine Z1 (YF T.ho T.hd T.fits ?_);refine Z1 (Z1 (W1 (Z7 ?_)));dsimp only;by_cases c:w.params.followText "set-order" = true
 ·rw[show (model prog w).w.params.followText "set-order" = true from c]
  simp only[↓reduceIte,bne_self_eq_false,Zw];unfold setWalk setsByText;refine Z1 (Z1 (YF T.ho T.hd T.fits ?_));refine Z1 (Z1 (W1 (Z7 ?_)));dsimp only;rw[show (model prog w).w.params.followText "set-order" = true from c]
  simp only[↓reduceIte];refine Z1 (W1 (Z7 ?_));refine Z7 ?_;have e:cV w a ep es=pickOrder (w.params.setOrder a ep) es:=by unfold cV;rw[if_pos c]
  have e2:∀j,slotAt w t j=0:=fun j=>by unfold slotAt;rw[if_pos c]
  rw[e,e2]at hQ;rw[e2];exact hQ
 ·have c':w.params.followText "set-order" = false:=by simpa using c
  rw[show (model prog w).w.params.followText "set-order" = false from c']
  simp only[Zw,↓reduceIte];show Zq _ _ (if (!t.plain&&decide (es.size>1))=true then _ else _) _ _ _
  rw[T.pl];simp only[YG,Xc,Zw,↓reduceIte];refine Z1 ?_;show Zq _ _ (if (!t.led&&!es.isEmpty)=true then _ else _) _ _ _
  rw[T.ld,c'];simp only[WY,YG,Xc,Zw,↓reduceIte];refine Z7 ?_;rw[ww T c' hi];have e:cV w a ep es=es:=by unfold cV;rw[if_neg c]
  rw[e]at hQ;by_cases l:i<es.size
  ·have h1:es[i]?=some es[i]:=Zb l;have h2:t.place[i]?=some (t.place.getD i 0):=oR (by rw[T.sz];exact l)
   have e3:slotAt w t (i+1)=t.place.getD i 0+1:=by unfold slotAt;rw[if_neg c,if_neg (by lia)];rfl
   rw[h1,e3]at hQ;rw[h1,h2];exact Z7 hQ
  ·have h1:es[i]?=none:=YB (by lia)
   rw[h1]at hQ ⊢;exact Z7 hQ
theorem tH{I:Addr}{i:Nat}{x:Int×Value}{Q:Option Value->Shared->Prop}(T:IOk prog w s.heap a o es ep t S)(hit:gW s.heap I a (slotAt w t i) i es.size ep)(EJ:a≠I)(hx:(cV w a ep es)[i]?=some x)
  (hQ:∀h',gW h' I a (slotAt w t (i+1)) (i+1) es.size ep->X9 I s.heap h'->Q (some x.2) {s with heap:=h'}):Zq (model prog w) A (pyNext (.ref I)) Q E s:=by
 have hT:s.TypeIs (.ref I) "set_iterator" :=⟨_,hit,rfl⟩;have Eu:i<es.size:=by rw[<-hZ w a ep es];exact (YQ.mp hx).1
 unfold pyNext;refine Z1 (Vx (Xa (name:=ZY "__next__") hT cU
  (Xv cU hT gZ ?_ (hU _))))
 unfold XC.«set_iterator.__next__» slotArgs;simp only[Vj,YG,Zw,↓reduceIte,bind_assoc,YL,bne_self_eq_false];refine Z1 (Z7 ?_);dsimp only;refine Z1 (Tw hit rfl ?_);show Zq _ _ (setEntries a>>=_) _ _ _;refine Z1 (WO T.ho T.hd T.fits ?_);show Zq _ _ (if (((es.size:Nat):Int) != ((es.size:Nat):Int))=true then _ else _) _ _ _
 simp only[bne_self_eq_false,Zw,↓reduceIte];refine Z1 (kT T (by lia) ?_)
 rw[hx];simp only[UP];refine Z1 (Ww hit (by simp) fun h1 g1 s1=>?_)
 refine Z1 (Ww g1 (by simp) fun h2 g2 s2=>Z7 ⟨x.2,rfl,Z7 (hQ h2 ?_ (s1.trans s2))⟩)
 exact g2
theorem nG{I:Addr}{Q:Option Value->Shared->Prop}(hh:A.handled=none)(T:IOk prog w s.heap a o es ep t S)(hit:gW s.heap I a (slotAt w t es.size) es.size es.size ep)
  (hQ:∀h',Heap.ExtBut I s.heap h'->Q none {s with heap:=h'}):Zq (model prog w) A (pyNext (.ref I)) Q E s:=by
 have hT:s.TypeIs (.ref I) "set_iterator" :=⟨_,hit,rfl⟩;unfold pyNext;refine Z1 (Vx (Xa (name:=ZY "__next__") hT cU
  (Xv cU hT gZ ?_ (hU _))))
 unfold XC.«set_iterator.__next__» slotArgs;simp only[Vj,YG,Zw,↓reduceIte,bind_assoc,YL,bne_self_eq_false];refine Z1 (Z7 ?_);dsimp only;refine Z1 (Tw hit rfl ?_);show Zq _ _ (setEntries a>>=_) _ _ _;refine Z1 (WO T.ho T.hd T.fits ?_);show Zq _ _ (if (((es.size:Nat):Int) != ((es.size:Nat):Int))=true then _ else _) _ _ _
 simp only[bne_self_eq_false,Zw,↓reduceIte];refine Z1 (kT T (Nat.le_refl _) ?_);rw[YB (by rw[hZ];exact Nat.le_refl _)]
 simp only[UO];refine Z1 (Ww hit (by simp) fun h1 g1 s1=>?_)
 show Zq _ _ (newExc (.type "StopIteration") []>>=_) _ _ _;refine Z1 ?_;simp only[newExc,newTuple];refine Z1 (XS ?_ (by size_fits))
 refine Z1 (m:=firstArgMember _ _) (VX (a:=Value.none) (by first|rfl| (simp only[firstArgMember];rfl)) ?_)
 refine XS ?_ (by size_fits)
 simp only[raiseNew];refine Z1 (wpAny_handled ?_);rw[show A.in1.handled=none from hh]
 refine Z1 (Z7 (wpAny_throw ?_));refine Z1 (Wf (T := "StopIteration") (b:=true) ⟨_,Zk _ rfl,rfl⟩ T7 ?_);exact Z7 (hQ _ ((s1.extBut.push _).push _))
end
end FS
end
section
namespace FS
open PySem PySem.SetTable PyProof.Rows
section
variable{prog:Zv}{w:Zl}{A:ZK}{E:Value->Shared->Prop}{s:Shared}{a:Addr}{o:Obj}{es:Array (Int×Value)}{ep:Nat}{t:ZX}{S:Int->Bool}
theorem vV(hh:A.handled=none)(I a:Addr)(EJ:a≠I):Walks prog w A I [I,a] [I] es.size (fun i v=>∃x,(cV w a ep es)[i]?=some x/\v=x.2)
  (fun i h=>gW h I a (slotAt w t i) i es.size ep/\IOk prog w h a o es ep t S) where
 sub:=fun b hb=>by simp at hb;simp[hb]
 frame:=fun _ _ _ st hk=>⟨hk I (by simp) _ st.1,st.2.at fun e=>hk a (by simp) _ e⟩
 item:=fun i s Q E hi st hQ=>by
  have hx:(cV w a ep es)[i]?=some ((cV w a ep es)[i]'(by rw[hZ];exact hi)):=Zb _
  refine tH st.2 st.1 EJ hx fun h' g hs=>?_;exact hQ _ h' s.toks ⟨_,hx,rfl⟩ ⟨g,st.2.at fun e=>hs.extBut _ _ EJ e⟩ fun b o hb e=>hs.extBut b o (fun h=>hb (by simp[h])) e
 done:=fun s Q E st hQ=>nG hh st.2 st.1 fun h' he=>hQ h' s.toks fun b o hb e=>he b o (fun h=>hb (by simp[h])) e
 self:=fun i s Q E st hQ=>by
  have hT:s.TypeIs (.ref I) "set_iterator" :=⟨_,st.1,rfl⟩;refine UD hT hV (Xv hV hT kQ ?_ (lz _));show Zq _ _ (ret (.ref I)) _ _ s;exact Z7 ⟨_,rfl,"set_iterator",_,hT,cU.lookup,hQ⟩
theorem x_{α:Type}{M:UR}{c:Prop}[Decidable c]{x y:Sem α}{Q:α->Shared->Prop}(h:c)(k:Zq M A x Q E s):Zq M A (if c then x else y) Q E s:=by rw[if_pos h];exact k
theorem oN:typeLookup (.type "set") "__len__" = pure (some (.builtin "set.__len__")):=F.slot_set_len.lookup
theorem tQ:isSubtype (.type "set") (.type "set")=pure true:=by rw[V1];kernel_rfl
set_option maxHeartbeats 4000000 in
theorem su{Q:List Value->Shared->Prop}(hh:A.handled=none)(T:IOk prog w s.heap a o es ep t S)(hn:es.size<=100)
  (hQ:∀s' acc,s.heap.objs.size<s'.heap.objs.size->(∀b ob,s.heap.get? b=some ob->s'.heap.get? b=some ob)->s'.gens=s.gens->s'.drawn=s.drawn->s'.os=s.os->s.toks<=s'.toks->S6 (fun i v=>∃x,(cV w a ep es)[i]?=some x/\v=x.2) acc es.size->Q acc.toList s'):Zq (model prog w) A (collect (.ref a)) Q E s:=by
 have Eu:a<s.heap.objs.size:=Z_ T.ho;have hSa:s.heap.objs.size≠a:=Nat.ne_of_gt Eu;have hT0:s.TypeIs (.ref a) "set" :=⟨o,T.ho,T.ex.1⟩;unfold collect;refine Z1 (VZ (Yk PySem.F.entry_proto_collect ?_));rw[Yp PySem.F.plain_proto_collect _];show Zq _ A.in1 (newList []>>=fun l=>again (.builtin "list.__iadd__" ⟨[l,.ref a],[]⟩)) _ _ s;refine Z1 (XS ?_);refine Z7 ⟨Xi Vi _,Yk PySem.F.entry_list_iadd ?_⟩;rw[Yp Vi _];have T1:IOk prog w (s.heap.push {cls:=.type "list",data:=.seq ([]:List Value).toArray}) a o es ep t S:=T.at fun e=>Z8 _ e;have hT1:Shared.TypeIs {s with heap:=s.heap.push {cls:=.type "list",data:=.seq ([]:List Value).toArray}} (.ref a) "set" :=⟨o,T1.ho,T1.ex.1⟩
 show Zq _ A.in1 (ZW (.ref s.heap.objs.size) (.ref a) (.ref s.heap.objs.size)) _ _ _;unfold ZW;refine Z1 (WQ hT1 ?_);have h1:YH (.ref s.heap.objs.size) (.ref a)=false:=by simp[YH,hSa]
 have h2:(Value.type "set"==Value.type "list")=false:=by decide
 have h3:(Value.type "set"==Value.type "tuple")=false:=by decide
 simp only[h1,h2,h3,WB,Zw,if_false];refine Z1 (tT T1 ?_);refine Z1 (Yj ?_);have T2:IOk prog w ((s.heap.push {cls:=.type "list",data:=.seq ([]:List Value).toArray}).push {cls:=.type "set_iterator",dict:=none,data:=.fields #[Yu (0:Nat),Yu (0:Nat),.ref a,Yu es.size,Yu ep],slots:=#[]}) a o es ep t S:=T1.at fun e=>Z8 _ e;have eI:(s.heap.push {cls:=.type "list",data:=.seq ([]:List Value).toArray}).objs.size=s.heap.objs.size+1:=Ys ..;have hI2:gW ((s.heap.push {cls:=.type "list",data:=.seq ([]:List Value).toArray}).push {cls:=.type "set_iterator",dict:=none,data:=.fields #[Yu (0:Nat),Yu (0:Nat),.ref a,Yu es.size,Yu ep],slots:=#[]}) (s.heap.push {cls:=.type "list",data:=.seq ([]:List Value).toArray}).objs.size a (slotAt w t 0) 0 es.size ep:=by
  have e:slotAt w t 0=0:=by unfold slotAt;split<;>rfl
  rw[e];exact Zk _ rfl
 have EK:((s.heap.push {cls:=.type "list",data:=.seq ([]:List Value).toArray}).push {cls:=.type "set_iterator",dict:=none,data:=.fields #[Yu (0:Nat),Yu (0:Nat),.ref a,Yu es.size,Yu ep],slots:=#[]}).get? s.heap.objs.size=some {cls:=.type "list",data:=.seq ([]:List Value).toArray}:=Z8 _ (Zk _ rfl);have kp2:∀b ob,s.heap.get? b=some ob->((s.heap.push {cls:=.type "list",data:=.seq ([]:List Value).toArray}).push {cls:=.type "set_iterator",dict:=none,data:=.fields #[Yu (0:Nat),Yu (0:Nat),.ref a,Yu es.size,Yu ep],slots:=#[]}).get? b=some ob:=fun b ob e=>Z8 _ (Z8 _ e);rw[eI]at hI2 ⊢;generalize (s.heap.push {cls:=.type "list",data:=.seq ([]:List Value).toArray}).push {cls:=.type "set_iterator",dict:=none,data:=.fields #[Yu (0:Nat),Yu (0:Nat),.ref a,Yu es.size,Yu ep],slots:=#[]}=h2 at *
 have hT2:Shared.TypeIs {s with heap:=h2} (.ref a) "set" :=⟨o,T2.ho,T2.ex.1⟩
 unfold Xz;refine Z1 (Xr hT2 oN ?_);dsimp only;have sp:splitId "set.__len__" = some ("set","__len__"):=by decide +kernel
 rw[sp];dsimp only;refine Z1 (Wf hT2 tQ ?_);simp only[YG,Zw,if_false];refine x_ (by decide +kernel) ?_
 refine Z1 (WQ hT2 ?_);refine Z7 ?_;refine x_ (by decide +kernel) ?_
 refine Z1 (T8 ?_);refine Z1 ?_;show Zq _ A.in1 (updateSeq s.heap.objs.size (·.push .none)>>=fun _=>updateSeq s.heap.objs.size (·.pop)) _ _ _;refine Z1 (Xq EK rfl ?_);have hS3:=Yi (Y8 (·.push Value.none)) EK rfl;refine Xq hS3 rfl ?_;have hS4:=Yi (Y8 (·.pop)) hS3 rfl;have oth:∀b o,b≠s.heap.objs.size->h2.get? b=some o->((h2.update s.heap.objs.size (Y8 (·.push Value.none))).update s.heap.objs.size (Y8 (·.pop))).get? b=some o:=
  fun b o hb e=>(Ym _ _ (Ne.symm hb)).trans ((Ym _ _ (Ne.symm hb)).trans e)
 have EJ:a≠s.heap.objs.size+1:=Nat.ne_of_lt (Nat.lt_succ_of_lt Eu);have EU:s.heap.objs.size∉[s.heap.objs.size+1,a]:=by
  simp only[Zz,Zj,Zr,or_false,W6];exact⟨Nat.ne_of_lt (Nat.lt_succ_self _),Nat.ne_of_gt Eu⟩
 have hh1:A.in1.handled=none:=by simp[hh]
 refine Z7 ⟨Xi YD _,U0 ((vV (prog:=prog) (w:=w) (o:=o) (es:=es) (ep:=ep) (t:=t) (S:=S) hh1 (s.heap.objs.size+1) a EJ).toS) (by rw[XU];lia) _ EU _ es.size 0 _ _ _ rfl (Nat.zero_le _)
  ⟨oth _ _ (Nat.succ_ne_self _) hI2,T2.at fun e=>oth _ _ (Ne.symm hSa) e⟩ hS4 (Sk _) fun s' acc' c' hm hS' hacc=>?_⟩
 show Zq _ A (load s.heap.objs.size>>=_) _ _ s';refine Z1 (wpAny_load hS' ?_);refine Z7 (hQ s' acc' (Z_ hS') (fun b ob e=>?_) hm.gens hm.drawn hm.os hm.toks hacc);have hb:=Z_ e;refine hm.heap b ob ?_ (oth b ob (Nat.ne_of_lt hb) (kp2 b ob e));simp only[Zz,Zj,Zr,or_false,W6];exact⟨Nat.ne_of_lt hb,Nat.ne_of_lt (Nat.lt_succ_of_lt hb)⟩
end
end FS
end
section
namespace FS
open PySem PySem.SetTable PyProof.Rows
section
variable{prog:Zv}{w:Zl}{A:ZK}{E:Value->Shared->Prop}{s:Shared}{a:Addr}{o:Obj}{es:Array (Int×Value)}{ep:Nat}{t:ZX}{S:Int->Bool}
theorem intsAre_of:∀{vs:List Value},(∀v∈vs,∃k tk,v=Value.int k tk)->∃ns,IntsAre vs ns
 | [],_=>⟨[],.nil⟩
 |v::vs,h=>by
  obtain⟨k,tk,rfl⟩:=h v Za;obtain⟨ns,hn⟩:=intsAre_of fun v hv=>h v (Zo _ hv);exact⟨k::ns,.cons k tk hn⟩
theorem IntsAre.mem_iff:∀{vs:List Value} {ns:List Int},IntsAre vs ns->∀k,k∈ns↔∃tk,Value.int k tk∈vs
 |_,_,.nil,k=>by simp
 |_,_,.cons n t hr,k=>by
  rw[Zz,IntsAre.mem_iff hr k];constructor
  ·rintro (rfl|⟨tk,h⟩)
   ·exact⟨t,Za⟩
   ·exact⟨tk,Zo _ h⟩
  ·rintro⟨tk,h⟩;rcases Zz.mp h with e|h
   ·cases e;exact .inl rfl
   ·exact .inr ⟨tk,h⟩
theorem IntsAre.nodup:∀{vs:List Value} {ns:List Int},IntsAre vs ns->(vs.Pairwise fun x y=>∀k a b,¬(x=Value.int k a/\y=Value.int k b))->ns.Nodup
 |_,_,.nil,_=>List.nodup_nil
 |_,_,.cons n t hr,h=>by
  rw[Uk]at h;rw[Xs];refine⟨fun hm=>?_,IntsAre.nodup hr h.2⟩;obtain⟨tk,h2⟩:=(IntsAre.mem_iff hr n).mp hm;exact h.1 _ h2 n t tk ⟨rfl,rfl⟩
theorem kO{k:Int}{v:Value}:(ZP prog w).is k v=true↔∃tk,v=.int k tk:=by
 constructor
 ·intro h;exact Value.isInt_shape (k:=k) (v:=v) h
 ·rintro⟨tk,rfl⟩;exact Va _ _ _ _
theorem i7{acc:Array Value}(T:IOk prog w s.heap a o es ep t S)(h:S6 (fun i v=>∃x,(cV w a ep es)[i]?=some x/\v=x.2) acc es.size):∃ns,IntsAre acc.toList ns/\ns.Nodup/\∀k,k∈ns↔S k=true:=by
 have e:acc.toList=(cV w a ep es).toList.map (·.2):=by
  apply X4;intro i;rw[Zn,Y4,Y4];by_cases c:i<es.size
  ·have hi:i<acc.size:=by rw[h.1];exact c
   obtain⟨x,hx,e⟩:=h.2 i acc[i] (Zb hi);rw[hx,Zb hi,e];rfl
  ·rw[YB (by rw[h.1];lia),YB (by rw[hZ];lia)];rfl
 have hp:=nj w a ep es;have el:∀x∈(cV w a ep es).toList,∃k tk,x.2=Value.int k tk:=fun x hx=>by
  obtain⟨⟨k,hk,_⟩,_⟩:=T.el x (hp.mem_iff.mp hx);obtain⟨tk,e⟩:=kO.mp hk;exact⟨k,tk,e⟩
 obtain⟨ns,hn⟩:=intsAre_of (vs:=acc.toList) (by
  rw[e];intro v hv;obtain⟨x,hx,rfl⟩:=Y9.mp hv;exact el x hx)
 refine⟨ns,hn,IntsAre.nodup hn ?_,fun k=>?_⟩
 ·rw[e,List.pairwise_map]
  have:=(Wl (fun h=>oF h) hp).mpr T.nd
  exact this.imp fun h k a b z=>h k ⟨kO.mpr ⟨a,z.1⟩,kO.mpr ⟨b,z.2⟩⟩
 ·rw[IntsAre.mem_iff hn k,T.mem k,e];constructor
  ·rintro⟨tk,h⟩;obtain⟨x,hx,e2⟩:=Y9.mp h;exact⟨x,hp.mem_iff.mp hx,kO.mpr ⟨tk,e2⟩⟩
  ·rintro⟨x,hx,h⟩;obtain⟨tk,e2⟩:=kO.mp h;exact⟨tk,Y9.mpr ⟨x,hp.mem_iff.mpr hx,e2⟩⟩
theorem gc:∀{l m:List Int},l.Nodup->l ⊆ m->l.length<=m.length
 | [],m,_,_=>Nat.zero_le _
 |a::l,m,d,h=>by
  rw[Xs]at d;have ha:a∈m:=h Za;have h2:l ⊆ m.erase a:=fun b hb=>by
   have EJ:b≠a:=fun e=>d.1 (e ▸ hb);exact (List.mem_erase_of_ne EJ).mpr (h (Zo _ hb))
  have:=gc d.2 h2
  have e:=List.length_erase_of_mem ha
  have:0<m.length:=List.length_pos_of_mem ha
  rw[Zg];lia
theorem o5:∀{ns:List Int},ns.Pairwise (·<=·)->ns.Nodup->ns.Pairwise (· < ·)
 | [],_,_=>.nil
 |n::ns,h,d=>by
  rw[Uk]at h ⊢;rw[Xs]at d;refine⟨fun m hm=>?_,o5 h.2 d.2⟩
  have:=h.1 m hm
  have:n≠m:=fun e=>d.1 (e ▸ hm)
  lia
theorem uc{Q:Value->Shared->Prop}(hh:A.handled=none)(T:IOk prog w s.heap a o es ep t S)(hn:es.size<=60)
  (h:∀(h':ZF) (tk:Nat) (L:Addr) (out:Array Value) (e:Nat) (ss:List Int),s.heap.objs.size<=L->h'.get? L=some (seqObj "list" out e)->IntsAre out.toList ss->ss.Pairwise (· < ·)->(∀k,k∈ss↔S k=true)->
   (∀b o,s.heap.get? b=some o->h'.get? b=some o)->Q (.ref L) {s with heap:=h',toks:=tk}):
  Zq (model prog w) A (call (.builtin "sorted") [.ref a]) Q E s:=by
 refine Calls.call_function_entry kind_sorted plain_sorted entry_sorted (args_sorted1 _) ?_;unfold XC.«sorted»;refine Z1 (m:=checkCount "sorted" 1 1 _) (Z7 ?_);refine Z1 (su (by simp[hh]) T (by lia) fun s' acc le kp g d os tk hacc=>?_)
 obtain⟨ns,hI,nd,mem⟩:=i7 T hacc;have hlen:acc.toList.length=es.size:=by rw[ZG];exact hacc.1
 obtain⟨h1,g1,d1,tk1,os1⟩:=s';dsimp only at g d os;subst g d os;refine Z1 (wpAny_newList ?_);have hoL:(h1.push (seqObj "list" acc.toList.toArray 0)).get? h1.objs.size=some (seqObj "list" acc.toList.toArray 0):=Zk _ rfl;refine Z1 (Yj (Xv slot_list_sort ⟨_,hoL,rfl⟩ entry_list_sort (list_sort_tree hoL hI (by lia) fun out ns' a1 a2 a3=>⟨_,rfl,?_⟩) (args_list_sort _)))
 obtain⟨e,hat⟩:=sortedHeap_at (out:=out) hoL;refine Z7 ⟨_,rfl,h _ tk1 _ out e ns' (Nat.le_of_lt le) hat a1 (o5 a3 (a2.nodup_iff.mpr nd)) (fun k=>(a2.mem_iff).trans (mem k)) fun b ob hb=>?_⟩;have h2:=kp b ob hb;have l2:=Z_ h2;rw[sortedHeap_old (Nat.ne_of_lt l2) (by rw[Ys];exact Nat.lt_succ_of_lt l2)]
 exact Z8 _ h2
end
end FS
end
section
namespace L2
open PySem PySem.Spec PyProof.Rows
section
variable{X:Cx}
noncomputable def vH(P:Zv)(w:Zl)(a:Addr)(val:Nat->Int)(n:Nat):HO:=.ext fun h=>FS.l6 P w h a val n/\n<=14
theorem ko:∀{vs:List Value} {ns:List Int},IntsAre vs ns->aR (ns.map V.int) vs
 |_,_,.nil=>.nil
 |_,_,.cons n t hr=>.cons ⟨t,rfl⟩ (ko hr)
theorem g8(hc:X.calm=true):dy X (.type "set") (fun xs H Q=>∃(p:Addr) (ns:List Int),xs=[.ref p]/\SqL X.K H p (ns.map V.int)/\ns.length<=14/\∀l,H l=none->Q (.ref l) (upd H l (vH X.prog X.w l (fun i=>ns.getD i 0) ns.length))):=by
 intro aa s σ H xs us Q I r h;obtain⟨p,ns,rfl,hq,hn,q⟩:=h;obtain⟨u,rfl,ra⟩:=vals1 r;cases ra;obtain⟨C',rv,pl,hz⟩:=I.list hq;have hl:=rv.length;rw[Z6]at hl;have sz:C'.toArray.size=ns.length:=by rw[Zs];lia
 refine FS.g8 (val:=fun i=>ns.getD i 0) (I.ok.hd hc) pl.isList (by lia) ?_ ?_
 ·intro i v e;rw[Yy]at e;have hi:i<ns.length:=by have:=(Zh.mp e).1;lia
  have e1:(ns.map V.int)[i]?=some (.int (ns.getD i 0)):=by
   rw[Zn,Z2 hi,Z0,Z2 hi];rfl
  obtain⟨u,eu,ru⟩:=rv.get e1;rw[e]at eu;cases eu;exact ru
 ·intro h' tk hH kp;have kept:∀b o,s.heap.get? b=some o->h'.get? b=some o:=fun b o e=>kp b o (Z_ e) e;have hf:H s.heap.objs.size=none:=I.hok.fresh (Nat.le_refl _);refine⟨.ref s.heap.objs.size,_,I.laid (o:=vH X.prog X.w s.heap.objs.size (fun i=>ns.getD i 0) ns.length) (t':=tk) kept (Nat.le_refl _) ?_,rfl,q _ hf⟩;rw[sz]at hH;have hH':=hH;obtain⟨o,es,ep,t,T,hz2⟩:=hH';refine⟨⟨hH,hn⟩,⟨o,T.ho⟩,?_⟩;rintro h1 h2 ⟨⟨o,es,ep,t,T,hz3⟩,G8⟩ k;exact⟨⟨o,es,ep,t,T.at fun e=>k o e,hz3⟩,G8⟩
theorem mB(hc:X.calm=true):dy X (.builtin "sorted") (fun xs H Q=>∃(p:Addr) (val:Nat->Int) (n:Nat),xs=[.ref p]/\H p=some (vH X.prog X.w p val n)/\
  ∀(l:Addr) (ss:List Int),H l=none->ss.Pairwise (· < ·)->(∀k,k∈ss↔∃j,j<n/\k=val j)->Q (.ref l) (upd H l (.lst (ss.map V.int)))):=by
 intro aa s σ H xs us Q I r h;obtain⟨p,val,n,rfl,hp,q⟩:=h;obtain⟨u,rfl,ra⟩:=vals1 r;cases ra;obtain⟨⟨⟨o,es,ep,t,T,hz⟩,hn⟩,_⟩:=I.hok p _ hp;refine FS.uc (I.ok.hd hc) T (by lia) fun h' tk L out e ss hL hat hI srt mem kp=>?_
 have hf:H L=none:=I.hok.fresh hL;have mem':∀k,k∈ss↔∃j,j<n/\k=val j:=fun k=>by
  rw[mem k];unfold FS.inB;rw[YA];constructor
  ·rintro⟨j,hj,e⟩;exact⟨j,Zy.mp hj,Zx e⟩
  ·rintro⟨j,hj,e⟩;exact⟨j,Zy.mpr hj,Zt e⟩
 refine⟨.ref L,_,I.laid (o:=.lst (ss.map V.int)) (t':=tk) kp hL ?_,rfl,q _ ss hf srt mem'⟩;have hv:=ko hI;have hlen:(ss.map V.int).length<=sizeLine:=by
  rw[Z6];have h1:ss.Nodup:=srt.imp fun h=>Int.ne_of_lt h;have h2:ss.length<=n:=by
   have sub:ss ⊆ (Z4 n).map val:=fun k hk=>by
    obtain⟨j,hj,e⟩:=(mem' k).mp hk;exact Y9.mpr ⟨j,Zy.mpr hj,e.symm⟩
   have:=FS.gc h1 sub
   rw[Z6,Zd]at this;exact this
  rw[XU];lia
 exact⟨hlen,out.toList,e,hv,hat⟩
end
end L2
end
section
namespace L2
open PySem PySem.Spec PyProof.Rows
end L2
namespace FD
open PySem L2 FF
noncomputable abbrev mH:Stmt:=top 32
noncomputable abbrev g6:Stmt:=top 33
noncomputable abbrev gS:Stmt:=top 31
noncomputable def pE:Sp:=fun vs H Q _=>∃a b pa pb y,vs=[.ref a,.ref b,.int y]/\PtA H a pa/\PtA H b pb/\Co pa/\Co pb/\(-(10^40)<=y/\y<=10^40)/\pa.2≠pb.2/\Q (.int (e_ pa pb y)) H
noncomputable def jr:Sp:=fun vs H Q _=>∃l r:Int,vs=[.int l,.int r]/\Q (.int (cS r-dS l)) H
noncomputable def B5(cs:List Pt)(y:Int)(ss:List Int):Prop:=ss.Pairwise (· < ·)/\(∀k,k<cs.length->zi cs y k->mX cs y k∈ss)/\(∀s∈ss,∃k,k<cs.length/\zi cs y k/\mX cs y k=s)/\ss.length<=400
noncomputable def nY:Sp:=fun vs H Q _=>∃l rf cs y,vs=[.ref l,.int y]/\PLs H l rf cs/\aJ cs/\aF cs/\(-(10^40)<=y/\y<=10^40)/\∀r ss H',au H H'->H' r=some (.lst (ss.map V.int))->B5 cs y ss->Q (.ref r) H'
section
variable{P:Zv}{w:Zl}{K:Z3}{mg:Str->Option Value}{base:ZF}{f:Addr}{fd:Zf}
theorem kY:aD ["start","end","y","rise","taken"] ["start","end","y"] (aq mH):=.mk'
theorem vZ{n:Nat}(F:Fun K "row_stop" "row_stop" mH f fd):aI P w K mg base CX0 (n+1) f fd ["start","end","y"] pE:=by
 refine F.ok kY (by rintro _ _ _ _⟨_,_,_,_,_,rfl,_⟩;rfl) fun E3 A outer s H vs Q E hr h=>?_
 obtain⟨a,b,pa,pb,y,rfl,ha,hb,ca,cb,cy,ne,q⟩:=h;refine⟨_,aB (aE (i:=3) kY.nd (ai bf (ak ax (pv 1) ad) (ak ax (pv 0) ad)))
  (aB (aE (i:=4) kY.nd (ai a_ (ai a8 (ak ax (pv 0) ad) (pv 3)) (ai a8 (ai bf (ak ax (pv 1) ad) (ak ax (pv 0) ad)) (ai bf (pv 2) (ak ax (pv 0) ad)))))
  (ap (aC (ai bf (ai i4 (pv 4) (pv 3)) (ai i4 (nX kw (pv 4)) (pv 3)))))),?_⟩
 have br:Big (pb.2-pa.2):=g7 cb.2 ca.2;have b0:Big pa.1:=by have:=ca.1;unfold Big;lia
 have nz:pb.2-pa.2≠0:=by lia
 refine⟨_,rfl,b,_,_,_,rfl,rfl,SqT.of hb,at1,_,rfl,a,_,_,_,rfl,rfl,SqT.of ha,at1,_,_,rfl,rfl,?_⟩;refine⟨_,rfl,a,_,_,_,rfl,rfl,SqT.of ha,at0,_,rfl,_,_,rfl,rfl,⟨b0,br⟩,_,rfl,b,_,_,_,rfl,rfl,SqT.of hb,at0,_,rfl,a,_,_,_,rfl,rfl,SqT.of ha,at0,_,_,rfl,rfl,_,rfl,_,rfl,a,_,_,_,rfl,rfl,SqT.of ha,at1,_,_,rfl,rfl,_,_,rfl,rfl,⟨g7 cb.1 ca.1,g7 cy ca.2⟩,_,_,rfl,rfl,?_⟩;exact⟨_,rfl,_,rfl,_,_,rfl,rfl,⟨nz,br⟩,_,rfl,_,rfl,_,rfl,_,_,rfl,rfl,⟨nz,br⟩,_,_,rfl,rfl,q⟩
theorem oK:aD ["left","right"] ["left","right"] (aq g6):=.mk'
theorem nv{n:Nat}(F:Fun K "whole_between" "whole_between" g6 f fd):aI P w K mg base CX0 (n+1) f fd ["left","right"] jr:=by
 refine F.ok oK (by rintro _ _ _ _⟨_,_,rfl,_⟩;rfl) fun E3 A outer s H vs Q E hr h=>?_
 obtain⟨l,r,rfl,q⟩:=h;refine⟨_,ap (aC (ai bf (ai gy (ai bf (pv 1) ad) ad) (ai gy (pv 0) ad))),?_⟩;have b2:(0:Int)<2/\Big 2:=⟨by decide,by unfold Big;lia⟩
 exact⟨_,rfl,_,_,rfl,rfl,_,_,rfl,rfl,b2,_,rfl,_,_,rfl,rfl,b2,_,_,rfl,rfl,q⟩
theorem x6:(["side","y"]:List Str).Nodup:=by decide +kernel
theorem jo:(["start","end","y"]:List Str).Nodup:=by decide +kernel
theorem nu:aD ["corners","y","met"] ["corners","y"] (aq gS):=.mk'
theorem tN(F:Fun K "row_stops" "row_stops" gS f fd)(cB:Cal P w K mg base 1 "between" ["one","number","other"] ke)(cR:Cal P w K mg base 1 "row_stop" ["start","end","y"] pE)(cS:Cal P w K mg base 1 "sides_of" ["corners"] gK)(Fg:mg "set" = none)(EO:mg "sorted" = none):aI P w K mg base CX0 2 f fd ["corners","y"] nY:=by
 refine F.ok nu (by rintro _ _ _ _⟨_,_,_,_,rfl,_⟩;rfl) fun E3 A outer s H vs Q E hr h=>?_
 obtain⟨l,rf,cs,y,rfl,hp,co,fe,cy,q⟩:=h;refine⟨_,aB (db (i:=2) (N':=["side","y"]) (own:=1) (ag:=[1]) rfl (aO.of (sc:=aq gS) (N0:=["corners","y","met"]) rfl rfl (by decide +kernel)) nu.nd rfl (ZQ rfl) (bp (ay cS hr (pa1 (pv 0)))) (fun _ _ _ _ _ _=>(aM (i:=0) x6 rfl (ZQ rfl))) (fun C cl fp aa s₂ H₂=>fh (PW.pt (gG (aQ iS (ak bG (ak bG (pv 0) ad) ad) (ak bG (ak bG (pv 0) ad) ad)) (fN (c7 (ay cB hr (pa3 (ak bG (ak bG (pv 0) ad) ad) (pv 1) (ak bG (ak bG (pv 0) ad) ad)))))))) (fun _ _ _ _ _ _=>(pv 0)))
  (ap (aC (aN (mB rfl) rfl EO TR (pa1 (fC (g8 rfl) rfl Fg VO (pa1 (bA (N':=["start","end","y"]) (own:=2) (ag:=[1]) rfl (aO.of (sc:=aq gS) (N0:=["corners","y","met"]) rfl rfl (by decide +kernel)) (bp (pv 2)) (fun _ _ _ _ _ _=>(gJ (n:=2) rfl (bw (aM (i:=0) jo rfl (ZQ rfl)) (bw (aM (i:=1) jo rfl (ZQ rfl)) e8)))) (fun C cl fp aa s₂ H₂=>bQ) (fun _ _ _ _ _ _=>(ay cR hr (pa3 (pv 0) (pv 1) (pv 2))))))))))),?_⟩
 have n3:=fe.lo;have FJ:=fe.hi;refine⟨_,rfl,l,rf,cs,rfl,hp,by lia,by lia,fun r ts H2 s2 EK=>⟨r,rfl,⟨_,SqL.of EK.1⟩,?_⟩⟩
 have hp2:=hp.mono s2;refine fB (n:=cs.length) (rf:=ts) (fun i=>(!((at' cs i).2==(at' cs (nx cs.length i)).2))&&eG (at' cs i).2 y (at' cs (nx cs.length i)).2) (aS (by lia)) (SqL.of EK.1) (fun i hi Qb hQ=>?_) (fun D2 hD2=>?_)
 ·have t1:=EK.2 i hi;have pa:=hp2.2 _ hi;have pb:=hp2.2 _ (aK hi);refine⟨_,rfl,_,_,_,_,rfl,rfl,SqT.of t1,at0,_,_,_,_,rfl,rfl,SqT.of pa,at1,_,rfl,_,_,_,_,rfl,rfl,SqT.of t1,at1,_,_,_,_,rfl,rfl,SqT.of pb,at1,rfl,_,rfl,?_⟩;rw[cX];refine aU (fun c=>?_) (fun c=>?_)
  ·have e:(!((at' cs i).2==(at' cs (nx cs.length i)).2))=true:=by simpa using c
   rw[e,Uw]at hQ;exact⟨_,rfl,_,_,_,_,rfl,rfl,SqT.of t1,at0,_,_,_,_,rfl,rfl,SqT.of pa,at1,_,rfl,_,rfl,_,_,_,_,rfl,rfl,SqT.of t1,at1,_,_,_,_,rfl,rfl,SqT.of pb,at1,_,_,_,rfl,_,rfl,hQ⟩
  ·have e:(!((at' cs i).2==(at' cs (nx cs.length i)).2))=false:=by simpa using c
   rw[e,Xc]at hQ;exact hQ
 obtain⟨L,eL⟩:∃L,L=(Z4 cs.length).filter fun i=>(!((at' cs i).2==(at' cs (nx cs.length i)).2))&&eG (at' cs i).2 y (at' cs (nx cs.length i)).2:=⟨_,rfl⟩;have memL:∀i,i∈L↔i<cs.length/\(at' cs i).2≠(at' cs (nx cs.length i)).2/\eG (at' cs i).2 y (at' cs (nx cs.length i)).2=true:=fun i=>by
  rw[eL,ZI,Zy,ZA];simp
 have lenL:L.length<=12:=by
  have:L.length<=(Z4 cs.length).length:=by rw[eL];exact XO _ _
  rw[Zd]at this;lia
 rw[<-eL];clear eL;have s3:=ao hD2 (.lst (L.map fun i=>V.ref (ts i)));have hD3:(upd H2 D2 (.lst (L.map fun i=>V.ref (ts i)))) D2=some (.lst (L.map fun i=>V.ref (ts i))):=aj;generalize upd H2 D2 (.lst (L.map fun i=>V.ref (ts i)))=H3 at *
 have hp3:=hp2.mono s3;have hS3:=EK.mono s3;refine⟨_,rfl,D2,rfl,⟨_,SqL.of hD3⟩,?_⟩;refine⟨L.length,fun i ys H'=>H'=H3/\ys=(L.take i).map fun k=>V.int (e_ (at' cs k) (at' cs (nx cs.length k)) y),aS (by lia),⟨rfl,rfl⟩,fun ys H' hW=>⟨⟨L.map fun i=>V.ref (ts i),by rw[hW.1];exact SqL.of hD3,by rw[Z6];exact Nat.le_refl _⟩,fun D hD=>?_⟩,
  fun i ys H' hi hW=>⟨⟨L.map fun i=>V.ref (ts i),_,by rw[hW.1];exact SqL.of hD3,by rw[Zn,Z2 hi];rfl⟩,fun x H4 hy=>?_⟩⟩
 rotate_left
 ·obtain⟨rfl,rfl⟩:=hW;obtain⟨rfl,hy⟩:=hy;have ex:=hy _ (SqL.of hD3);rw[Zn,Z2 hi]at ex;obtain rfl:V.ref (ts L[i])=x:=by simpa using ex
  obtain⟨m1,m2,m3⟩:=(memL L[i]).mp (YC hi);refine⟨_,_,rfl,SqT.of (hS3.2 _ m1),rfl,_,_,rfl,_,_,rfl,rfl,iL (by decide) (by decide),?_⟩
  refine c9 ?_;refine⟨_,rfl,_,rfl,_,rfl,_,_,_,_,_,rfl,hp3.2 _ m1,hp3.2 _ (aK m1),co _ m1,co _ (aK m1),cy,m2,rfl,?_⟩;rw[Xj hi,ZU];rfl
 obtain⟨eH,rfl⟩:=hW;rw[eH]at hD ⊢;rw[UJ];obtain⟨ns,ens⟩:∃ns:List Int,ns=L.map fun k=>e_ (at' cs k) (at' cs (nx cs.length k)) y:=⟨_,rfl⟩;have e2:(L.map fun k=>V.int (e_ (at' cs k) (at' cs (nx cs.length k)) y))=ns.map V.int:=by rw[ens,YK];rfl
 rw[e2];have lenN:ns.length<=12:=by rw[ens,Z6];exact lenL
 have s4:=ao hD (.lst (ns.map V.int));have hD4:(upd H3 D (.lst (ns.map V.int))) D=some (.lst (ns.map V.int)):=aj;generalize upd H3 D (.lst (ns.map V.int))=H4 at *
 refine⟨D,ns,rfl,SqL.of hD4,by lia,fun z hz=>⟨z,_,_,rfl,aj,fun r2 ss hr2 srt mem=>?_⟩⟩
 have s5:=ao hz (vH P w z (fun i=>ns.getD i 0) ns.length);have s6:=ao hr2 (.lst (ss.map V.int));have memN:∀k,k∈ss↔k∈ns:=fun k=>by
  rw[mem k,Xk];constructor
  ·rintro⟨j,hj,e⟩;exact⟨j,hj,by rw[e,Z0,Z2 hj];rfl⟩
  ·rintro⟨j,hj,e⟩;exact⟨j,hj,by rw[<-e,Z0,Z2 hj];rfl⟩
 refine q r2 ss _ (s2.trans (s3.trans (s4.trans (s5.trans s6)))) aj ⟨srt,fun k hk m=>?_,fun s hs=>?_,?_⟩
 ·rw[memN,ens,Y9];have hk':=bJ hk;refine⟨pvN cs.length k,(memL _).mpr ?_,?_⟩
  ·rw[jv hk];exact⟨hk',m.1,m.2⟩
  ·rw[jv hk];rfl
 ·rw[memN,ens,Y9]at hs;obtain⟨i,hi,rfl⟩:=hs;obtain⟨m1,m2,m3⟩:=(memL i).mp hi;refine⟨nx cs.length i,aK m1,⟨?_,?_⟩,?_⟩
  ·unfold sA sB;rw[kf m1];exact m2
  ·unfold sA sB;rw[kf m1];exact m3
  ·unfold mX sA sB;rw[kf m1]
 ·have h1:ss.Nodup:=srt.imp fun h=>Int.ne_of_lt h
  have:=FS.gc h1 (fun k hk=>(memN k).mp hk:ss ⊆ ns)
  lia
end
end FD
end
section
namespace FD
open PySem L2 FF
noncomputable abbrev gz:Stmt:=top 30
theorem BP{K:Z3}{a b:Addr}{xs ys:List V}{g:TG}{tb:TS}{D:g9}{σ:St}{H:Hp}(hle:ys.length<=xs.length)(Pv:Nat->St->Hp->Prop)(h0:Pv 0 σ H)(hl:∀i σ H,i<=ys.length->Pv i σ H->SqL K H a xs/\SqL K H b ys)
  (hs:∀i x y σ H T,i<ys.length->xs[i]?=some x->ys[i]?=some y->Pv i σ H->H T=none->g (.ref T) σ (upd H T (.tup [x,y])) fun σ2 H2=>tb {D with nx:=Pv (i+1),ct:=Pv (i+1),bk:=D.nx} σ2 H2)(hd:∀σ H,Pv ys.length σ H->D.nx σ H):
  ∃W:Nat->Nat->St->Hp->Prop,(∃m,W 0 m σ H)/\∀i m σ H,W i m σ H->
   ((Itz K a b).stop i H/\D.nx σ H)\/((Itz K a b).go i H/\∃N:St->Hp->Prop,(∀σ' H',N σ' H'->∃m',m'<m/\W (i+1) m' σ' H')/\∀x H',(Itz K a b).yld i H x H'->g x σ H' fun σ2 H2=>tb {D with nx:=N,ct:=N,bk:=D.nx} σ2 H2):=by
 refine⟨fun i m σ H=>m=ys.length-i/\i<=ys.length/\Pv i σ H,⟨ys.length,by simp,Nat.zero_le _,h0⟩,?_⟩
 rintro i m σ H ⟨rfl,hi,p⟩;obtain⟨q1,q2⟩:=hl i σ H hi p;by_cases Eu:i<ys.length
 ·have hlx:i<xs.length:=by lia
  refine .inr ⟨⟨xs,ys,xs[i],ys[i],q1,q2,by simp[hlx],by simp[Eu]⟩,Pv (i+1),fun σ' H' p'=>⟨ys.length-(i+1),by lia,rfl,Eu,p'⟩,fun x H' y=>?_⟩
  obtain⟨T,v,w,rfl,hT,rfl,y1,y2⟩:=y;exact hs i v w σ _ T Eu (y1 xs q1) (y2 ys q2) p hT
 ·have e:i=ys.length:=by lia
  subst e;exact .inl ⟨⟨xs,ys,q1,q2,.inr (Nat.le_refl _)⟩,hd σ H p⟩
theorem Ef(ns:List Int):bj (ns.map V.int) (some 1) none=(ns.drop 1).map V.int:=by
 unfold bj;cases ns with
 |nil=>rfl
 |cons a r=>
  have e1:HT.sIx (U3 V.int (a::r)).length 0 (some 1)=1:=by
   show HT.sIx (U3 V.int r).length.succ 0 (some 1)=1;unfold HT.sIx;simp
  have e2:HT.sIx (U3 V.int (a::r)).length (U3 V.int (a::r)).length none=(U3 V.int (a::r)).length:=rfl;rw[e1,e2];simp only[Y5,Zg,List.drop_succ_cons,V2,Nat.add_sub_cancel];exact XE (Nat.le_refl _)
noncomputable def evn(ss:List Int):Int:=((ss.filter fun s=>s%2==0).length:Int)
noncomputable def DO(i:Nat):TE:=fun σ H Q=>∃(r:Addr) (ss:List Int),σ[i]?=some (some (.ref r))/\H r=some (.lst (ss.map V.int))/\ss.length<=400/\∀D H',H D=none->au H H'->H' D=some (.dK (cK 0 (evn ss) 0))->Q (.ref D) H'
theorem Bt(n:Int):jn [] [(YZ "inside",.int 0),(YZ "rim",.int n),(YZ "outside",.int 0)]=cK 0 n 0:=rfl
theorem xA{K:Z3}{i:Nat}(σ:L2.St)(H:Hp)(Q:VK)(h:DO i σ H Q):AF [(tC (.str "inside"),tC (.int 0)),(tC (.str "rim"),tCB (fun xs H Q=>∃p ys,xs=[.ref p]/\(SqL K H p ys\/SqT K H p ys)/\Q (.int ys.length) H) (dG (h_ (jL K (dz i)) 1 [] (dX 0) (wj (tOp rEq (tOp CH (dz 0) (tC (.int 2))) (tC (.int 0)))) (dz 0)) j7)),(tC (.str "outside"),tC (.int 0))] σ H Q:=by
 obtain⟨r,ss,e,hr,hl,q⟩:=h;intro p hp;have s0:=ao hp (.dK []);have hr0:=s0 _ _ hr;have hp0:(upd H p (.dK [])) p=some (.dK []):=aj;generalize upd H p (.dK [])=H0 at *
 refine⟨_,e,r,rfl,⟨_,SqL.of hr0⟩,?_⟩;refine⟨ss.length,fun i ys H'=>H'=H0/\ys=((ss.take i).filter fun s=>s%2==0).map V.int,aS (by lia),⟨rfl,rfl⟩,fun ys H' hW=>⟨⟨ss.map V.int,by rw[hW.1];exact SqL.of hr0,by rw[Z6];exact Nat.le_refl _⟩,fun D hD=>?_⟩,
  fun i ys H' hi hW=>⟨⟨ss.map V.int,_,by rw[hW.1];exact SqL.of hr0,by rw[Zn,Z2 hi];rfl⟩,fun x H4 hy=>?_⟩⟩
 rotate_left
 ·obtain⟨rfl,rfl⟩:=hW;obtain⟨rfl,hy⟩:=hy;have ex:=hy _ (SqL.of hr0);rw[Zn,Z2 hi]at ex;obtain rfl:V.int ss[i]=x:=by simpa using ex
  refine⟨dC (by decide),_,rfl,_,_,rfl,rfl,(show (0:Int)<2 by decide),rfl,_,rfl,?_⟩
  rw[cX];refine aU (fun c=>?_) (fun c=>?_)
  ·refine⟨_,rfl,rfl,?_⟩;rw[Xj hi,YX,ZU,YY,if_pos c];rfl
  ·refine⟨rfl,?_⟩;rw[Xj hi,YX,YY,if_neg c,Wy,ZT]
 obtain⟨eH,rfl⟩:=hW;rw[eH]at hD ⊢;rw[UJ];have s1:=ao hD (.lst ((ss.filter fun s=>s%2==0).map V.int));refine⟨D,_,rfl,.inl (SqL.of aj),?_⟩;refine⟨s1 _ _ hp0,[(YZ "inside",.int 0),(YZ "rim",.int _),(YZ "outside",.int 0)],rfl,by show 3<=15;decide,?_⟩
 rw[Z6,Bt];exact q p _ hp (FD.au.updN (s0.trans s1) hp) aj
theorem Cm(cs:List Pt)(p:Pt):gA cs p = "rim"\/gA cs p = "inside"\/gA cs p = "outside" :=by
 unfold gA
 split
 ·exact .inl rfl
 ·split
  ·exact .inr (.inl rfl)
  ·exact .inr (.inr rfl)
theorem zM(s:Str)(n i r o:Int):∃i' r' o',bump s n i r o=cK i' r' o':=by
 unfold bump
 split
 ·exact⟨_,_,_,rfl⟩
 ·split<;>exact⟨_,_,_,rfl⟩
noncomputable def lI:Sp:=fun vs H Q _=>∃l rf cs y,vs=[.ref l,.int y]/\PLs H l rf cs/\aJ cs/\aF cs/\(-(10^40)<=y/\y<=10^40)/\∀t H' i r,au H H'->PtA H' t (i,r)->Q (.ref t) H'
section
variable{P:Zv}{w:Zl}{K:Z3}{mg:Str->Option Value}{base:ZF}{f:Addr}{fd:Zf}
theorem BW:(["stop"]:List Str).Nodup:=by decide +kernel
theorem ff:aD ["corners","y","stops","found","left","right"] ["corners","y"] (aq gz):=.mk'
set_option maxHeartbeats 4000000 in
theorem kU(F:Fun K "row_counts" "row_counts" gz f fd)(cF:Cal P w K mg base 6 "refuse_no_fence" ["corners"] eQ)(cR:Cal P w K mg base 2 "row_stops" ["corners","y"] nY)(cP:Cal P w K mg base 3 "place_of" ["corners","point"] jx)(cW:Cal P w K mg base 1 "whole_between" ["left","right"] jr)(F5:mg "zip" = none)(ml:mg "len" = none):aI P w K mg base CX0 7 f fd ["corners","y"] lI:=by
 refine F.ok ff (by rintro _ _ _ _⟨_,_,_,_,rfl,_⟩;rfl) fun E3 A outer s H vs Q E hr h=>?_
 obtain⟨l,rf,cs,y,rfl,hp,co,fe,cy,q⟩:=h;have hu0:=hr.un;have hu:A.units+3+1<cLine:=by have:A.units+3+16*6+200<cLine:=hu0;lia
 refine⟨_,am (aV (ay cF hr (pa1 (pv 0))))
  (am (aE (i:=2) ff.nd (ay cR hr (pa2 (pv 0) (pv 1))))
  (am (aE (i:=3) ff.nd (fi (Cd (l9 b6 ad (l9 b6 (aN aW rfl ml ZJ (pa1 (bA (N':=["stop"]) (own:=1) (ag:=[]) rfl (aO.of (sc:=aq gz) (N0:=["corners","y","stops","found","left","right"]) rfl rfl (by decide +kernel)) (bp (pv 2)) (fun _ _ _ _ _ _=>(aM (i:=0) BW rfl (ZQ rfl))) (fun C cl fp aa s₂ H₂=>fh (aQ be (ai dv (pv 0) ad) ad)) (fun C cl fp aa s₂ H₂=>pv 0)))) (l9 b6 ad BV))) rfl rfl (by simp) (by decide)) (xA (i:=2))))
  (am (gU Yb rfl (C1 rfl F5 (pa2 (pv 2) (bH bZ (pv 2) (bP ad) cN))) (mV (n:=2) rfl (bw (aM (i:=4) ff.nd rfl (ZQ rfl)) (bw (aM (i:=5) ff.nd rfl (ZQ rfl)) e8)))
   (ap (BA hu (pv 3) (ay cP hr (pa2 (pv 0) (dW (pa2 (ai a_ (ai gy (pv 4) ad) ad) (pv 1))))) (ay cW hr (pa2 (pv 4) (pv 5))) Do (fun _ _ _=>rfl))))
  (ap (aC (dW (pa2 (ut hu (pv 3) b6 (fun _ _=>rfl)) (ut hu (pv 3) b6 (fun _ _=>rfl))))))))),?_⟩
 have n3:=fe.lo;have FJ:=fe.hi;refine⟨_,rfl,l,rf,cs,rfl,hp,co,fe,fun H1 s1=>⟨[_,_,_,_,_,_],rfl,?_⟩⟩;refine⟨_,rfl,_,rfl,l,rf,cs,y,rfl,hp.mono s1,co,fe,cy,fun r ss H2 s2 hr2 st=>⟨[_,_,_,_,_,_],rfl,?_⟩⟩;obtain⟨srt,st1,Fd,lenS⟩:=st;refine⟨r,ss,rfl,hr2,lenS,fun D H3 hD s3 hK=>⟨[_,_,_,_,_,_],rfl,?_⟩⟩;refine⟨_,rfl,_,rfl,_,rfl,_,_,rfl,SqL.of (s3 _ _ hr2),fun z hz=>⟨_,_,rfl,⟨_,SqL.of (ao hz _ _ _ (s3 _ _ hr2))⟩,⟨_,SqL.of aj⟩,?_⟩⟩;have hz4:(upd H3 z (.lst (bj (ss.map V.int) (some 1) none))) z=some (.lst ((ss.drop 1).map V.int)):=by rw[aj,Ef]
 have s4:=ao hz (.lst (bj (ss.map V.int) (some 1) none));have hzD:z≠D:=fun e=>by rw[e,hK]at hz;cases hz
 generalize upd H3 z (.lst (bj (ss.map V.int) (some 1) none))=H4 at *
 have lenD:((ss.drop 1).map V.int).length=ss.length-1:=by rw[Z6,Zu]
 refine BP (xs:=ss.map V.int) (ys:=(ss.drop 1).map V.int) (by rw[lenD,Z6];lia) (fun (i:Nat) (σ:St) (H':Hp)=>∃v4 v5 ia ra o,σ=[some (.ref l),some (.int y),some (.ref r),some (.ref D),v4,v5]/\au H2 H'/\H' z=some (.lst ((ss.drop 1).map V.int))/\
   H' D=some (.dK (cK ia ra o)))
  ⟨none,none,0,evn ss,0,rfl,s3.trans s4,hz4,s4 _ _ hK⟩ ?_ ?_ ?_
 ·rintro i σ H' hi ⟨v4,v5,ia,ra,o,rfl,sH,hz',hK'⟩;exact⟨SqL.of (sH _ _ hr2),SqL.of hz'⟩
 ·rintro i x x' σ H' T hi ex FP ⟨v4,v5,ia,ra,o,rfl,sH,hz',hK'⟩ hT;rw[lenD]at hi;have i1:i+1<ss.length:=by lia
  have i0:i<ss.length:=by lia
  rw[Zn,Z2 i0]at ex;rw[Zn,YM,Z2 (by lia)]at FP
  have e1:ss.getD i 0=ss[i]:=by rw[Z0,Z2 i0];rfl
  have e2:ss.getD (i+1) 0=ss[i+1]:=by rw[Z0,Z2 i1];rfl
  obtain rfl:V.int ss[i]=x:=by simpa using ex
  obtain rfl:V.int (ss[i+1])=x':=by
   have e:1+i=i+1:=Nat.add_comm _ _;simp only[e]at FP;simpa using FP
  have lt:ss[i]<ss[i+1]:=W2.mp srt i (i+1) i0 i1 (by lia)
  have bd:∀s∈ss,2*(-(10^40))<=s/\s<=2*10^40:=fun s hs=>by
   obtain⟨k,hk,m,e⟩:=Fd s hs;rw[<-e];exact sK (fun p hp=>by
    obtain⟨j,hj,e⟩:=qy hp;rw[<-e];exact (co j hj).1) hk m
  have b0:=bd _ (YC i0);have b1:=bd _ (YC i1);have b2:(0:Int)<2/\Big 2:=⟨by decide,by unfold Big;lia⟩
  generalize hl:ss[i]=lf at *
  generalize hr':ss[i+1]=rg at *
  have sT:=ao hT (.tup [V.int lf,V.int rg]);have hTn:(upd H' T (.tup [V.int lf,V.int rg])) T=some (.tup [V.int lf,V.int rg]):=aj;have hDT:H2 D=none:=hD;generalize upd H' T (.tup [V.int lf,V.int rg])=H5 at *
  refine⟨_,_,rfl,SqT.of hTn,rfl,_,_,rfl,_,_,rfl,rfl,?_⟩;refine⟨_,rfl,_,rfl,_,rfl,_,_,rfl,rfl,b2,_,_,rfl,rfl,_,rfl,_,_,rfl,fun tp H7 s7 hp7=>?_⟩;have s57:=sT.trans s7;refine⟨l,tp,rf,cs,(lf/2+1,y),rfl,hp.mono (s1.trans (s2.trans (sH.trans s57))),co,fe,hp7,?_,fun H8 s8=>?_⟩
  ·show (-(10^40)<=lf/2+1/\lf/2+1<=10^40)/\-(10^40)<=y/\y<=10^40;exact⟨by lia,cy⟩
  have hK8:=(s57.trans s8) _ _ hK';have hz8:=(s57.trans s8) _ _ hz';have sH8:=sH.trans (s57.trans s8);obtain⟨c,hv,hput⟩:=Be (Cm cs (lf/2+1,y)) ia ra o;obtain⟨i3,r3,o3,hb⟩:=zM (gA cs (lf/2+1,y)) (cS rg-dS lf) ia ra o;have gd:=jT.k (k:=YZ (gA cs (lf/2+1,y))) hK8;rw[hv]at gd;have pd:=sJ.k (k:=YZ (gA cs (lf/2+1,y))) (v:=.int (c+(cS rg-dS lf))) hK8 (by show 3<sizeLine;decide)
  rw[hput,hb]at pd;refine⟨D,.int c,rfl,gd,_,rfl,_,rfl,_,_,rfl,_,_,rfl,rfl,_,pd,?_⟩;exact⟨_,_,i3,r3,o3,rfl,FD.au.updN sH8 hDT,by rw[aG hzD];exact hz8,aj⟩
 ·rintro σ H' ⟨v4,v5,ia,ra,o,rfl,sH,hz',hK'⟩;refine⟨[_,_,_,_,_,_],rfl,?_⟩;exact⟨_,rfl,D,.int ia,rfl,jT.k (k:=YZ "inside") hK',_,rfl,D,.int ra,rfl,jT.k (k:=YZ "rim") hK',_,_,rfl,fun t H9 s9 hp9=>q t H9 _ _ (s1.trans (s2.trans (sH.trans s9))) hp9⟩
end
end FD
end
section
namespace FD
open PySem L2 FF
noncomputable abbrev sGC:Stmt:=top 36
theorem Sm.add{A B x y:Int}(h1:Sm A x)(h2:Sm B y):Sm (A+B) (x+y):=by unfold Sm at *;lia
theorem qQ{B:Int}(g:Nat->Int):∀(l:List Nat),(∀i∈l,Sm B (g i))->Sm (B*(l.length:Int)) (fR (l.map g))
 | [],_=>by show Sm (B*0) 0;rw[Int.mul_zero];exact⟨by decide,by decide⟩
 |i::l,h=>by
  have h1:=h i (by simp)
  have h2:=qQ g l fun j hj=>h j (by simp[hj])
  show Sm (B*((l.length+1:Nat):Int)) (g i+fR (l.map g));rw[Int.natCast_add,Int.mul_add];have e:B*((1:Nat):Int)=B:=by rw[Int.natCast_one,Int.mul_one]
  rw[e]
  have:=h1.add h2
  unfold Sm at *
  lia
theorem vd{p:Pt}(h:Co p):Sm (10^40) p.1/\Sm (10^40) p.2:=h
theorem A3{cs:List Pt}(co:aJ cs)(n1:1<=cs.length)(FJ:cs.length<=12):Sm (10^90) (area cs):=by
 rw[<-sy n1];have k:=qQ (B:=2*10^80) (fun i=>cr (at' cs i) (at' cs (nx cs.length i))) (Z4 cs.length) fun i hi=>by
  have hi:=Zy.mp hi;have a:=vd (co i hi);have b:=vd (co _ (aK hi));have m1:=gD a.1 b.2;have m2:=gD b.1 a.2;show Sm _ ((at' cs i).1*(at' cs (nx cs.length i)).2-(at' cs (nx cs.length i)).1*(at' cs i).2)
  have:(10^40*10^40:Int)=10^80:=by decide
  rw[this]at m1 m2;unfold Sm at *
  lia
 rw[Zd]at k
 have:(2*10^80:Int)*(cs.length:Int)<=2*10^80*12:=Int.mul_le_mul_of_nonneg_left (by lia) (by decide)
 exact k.mono (by lia)
theorem En{p q:Pt}(hp:Co p)(hq:Co q):Sm (10^41) (gd p q):=by
 unfold gd;refine⟨Int.le_trans (by decide) (Int.natCast_nonneg _),?_⟩
 obtain⟨a1,a2⟩:=hp;obtain⟨b1,b2⟩:=hq;by_cases c:q.1-p.1=0
 ·rw[c,Int.gcd_zero_left];lia
 ·have:=Nat.le_of_dvd (by lia) (Nat.gcd_dvd_left (q.1-p.1).natAbs (q.2-p.2).natAbs)
  show ((Nat.gcd (q.1-p.1).natAbs (q.2-p.2).natAbs:Nat):Int)<=_;lia
theorem DB{cs:List Pt}(co:aJ cs)(n1:1<=cs.length)(FJ:cs.length<=12):Sm (10^50) (mx cs):=by
 rw[<-wZ,<-ug gd n1];have k:=qQ (B:=10^41) (fun i=>gd (at' cs i) (at' cs (nx cs.length i))) (Z4 cs.length) fun i hi=>by
  have hi:=Zy.mp hi;exact En (co i hi) (co _ (aK hi))
 rw[Zd]at k
 have:(10^41:Int)*(cs.length:Int)<=10^41*12:=Int.mul_le_mul_of_nonneg_left (by lia) (by decide)
 exact k.mono (by lia)
noncomputable def Cr(cs:List Pt):Int:=if area cs<0 then-area cs else area cs
noncomputable def gcP(cs:List Pt)(k:Int):Pt:=((k*k*Cr cs+k*mx cs)/2+1,(k*k*Cr cs-k*mx cs)/2+1)
noncomputable def Dj:Sp:=fun vs H Q _=>∃l rf cs k,vs=[.ref l,.int k]/\PLs H l rf cs/\aJ cs/\aF cs/\Sm (10^40) k/\∀t H',au H H'->PtA H' t (gcP cs k)->Q (.ref t) H'
section
variable{P:Zv}{w:Zl}{K:Z3}{mg:Str->Option Value}{base:ZF}{f:Addr}{fd:Zf}
theorem sO:aD ["corners","k","wide","round_about"] ["corners","k"] (aq sGC):=.mk'
theorem AU(F:Fun K "greater_counts" "greater_counts" sGC f fd)(E1:Cal P w K mg base 7 "double_area" ["corners"] kW)(ED:Cal P w K mg base 7 "rim" ["corners"] qw):aI P w K mg base CX0 8 f fd ["corners","k"] Dj:=by
 refine F.ok sO (by rintro _ _ _ _⟨_,_,_,_,rfl,_⟩;rfl) fun E3 A outer s H vs Q E hr h=>?_
 obtain⟨l,rf,cs,k,rfl,hp,co,fe,sk,q⟩:=h;refine⟨_,aB (aE (i:=2) sO.nd (ai a8 (ai a8 (pv 1) (pv 1)) (ay E1 hr (pa1 (pv 0)))))
  (aB (aE (i:=3) sO.nd (ai a8 (pv 1) (ay ED hr (pa1 (pv 0)))))
  (ap (aC (dW (pa2 (ai a_ (ai gl (ai a_ (pv 2) (pv 3)) ad) ad) (ai a_ (ai gl (ai bf (pv 2) (pv 3)) ad) ad)))))),?_⟩
 have l3:=fe.lo;have l12:=fe.hi;have Bk:Big k:=iu (sk.mono (by decide))
 have Bkk:Big (k*k):=iu ((gD sk sk).mono (by decide))
 have sA:Sm (10^90) (if area cs<0 then-area cs else area cs):=by
  have:=A3 co (by lia) l12
  unfold Sm at *
  split<;>lia
 have Br:Big (mx cs):=iu ((DB co (by lia) l12).mono (by decide))
 refine⟨_,rfl,_,rfl,_,_,rfl,rfl,⟨Bk,Bk⟩,_,rfl,l,rf,cs,rfl,hp,co,fe,fun H1 s1=>⟨_,_,rfl,rfl,⟨Bkk,iu sA⟩,?_⟩⟩;refine⟨_,rfl,_,rfl,l,rf,cs,rfl,hp.mono s1,co,fe,fun H2 s2=>⟨_,_,rfl,rfl,⟨Bk,Br⟩,?_⟩⟩;exact⟨_,rfl,_,rfl,_,_,rfl,rfl,_,_,rfl,rfl,⟨by decide,by decide⟩,_,_,rfl,rfl,_,rfl,_,rfl,_,_,rfl,rfl,_,_,rfl,rfl,⟨by decide,by decide⟩,_,_,rfl,rfl,_,_,rfl,fun t H3 s3 p3=>q t H3 ((s1.trans s2).trans s3) p3⟩
end
end FD
end
section
namespace FD
open PySem L2 FF
noncomputable abbrev iC:Stmt:=top 35
noncomputable def grM(k:Int)(p:Pt):Pt:=(p.1*k,p.2*k)
noncomputable def D_(i own:Nat)(ag:List Nat)(g:TG)(te:TE):TE:=fun σ H Q=>∃(a:Addr) (rf:Nat->Addr) (cs:List Pt) (gf:Pt->Pt),σ[i]?=some (some (.ref a))/\PLs H a rf cs/\cs.length<=400/\
 (∀k,k<cs.length->∀H',au H H'->∀Q':VK,(∀t H4,au H' H4->PtA H4 t (gf (at' cs k))->Q' (.ref t) H4)->g (.ref (rf k)) (compσ own ag σ) H' fun σ2 H2=>dh own ag σ σ2/\te σ2 H2 Q')/\
 ∀D rg H',au H H'->PLs H' D rg (cs.map gf)->H D=none->Q (.ref D) H'
theorem xW{K:Z3}{i own:Nat}{ag:List Nat}{g:TG}{te:TE}(gm:∀x σ H Q Q',(∀s h,Q s h->Q' s h)->g x σ H Q->g x σ H Q')(σ:L2.St)(H:Hp)(Q:VK)(h:D_ i own ag g te σ H Q):h_ (jL K (dz i)) own ag g (fun _ H Q=>Q true H) te σ H Q:=by
 obtain⟨a,rf,cs,gf,e,hP,n4,el,q⟩:=h;refine⟨_,e,a,rfl,⟨_,SqL.of hP.1⟩,cs.length,fun i ys H'=>au H H'/\∃ts,ys=aw i ts/\∀j,j<i->PtA H' (ts j) (gf (at' cs j)),aS (by lia),⟨au.refl _,fun _=>a,rfl,fun j hj=>absurd hj (by lia)⟩,
  fun ys H' hW=>⟨⟨aw cs.length rf,SqL.of (hW.1 _ _ hP.1),by rw[av];exact Nat.le_refl _⟩,fun D hD=>?_⟩,fun i ys H' hi hW=>⟨⟨aw cs.length rf,_,SqL.of (hW.1 _ _ hP.1),aY hi⟩,fun x H3 hy=>?_⟩⟩
 ·obtain⟨sW,ts,rfl,hts⟩:=hW;have s9:=ao hD (.lst (aw cs.length ts));refine q D ts _ (sW.trans s9) ⟨by rw[aj,Z6],fun j hj=>?_⟩ (sW.free hD)
  rw[Z6]at hj;rw[eZ hj];exact s9 _ _ (hts j hj)
 ·obtain⟨sW,ts,rfl,hts⟩:=hW;obtain⟨rfl,hy⟩:=hy;obtain⟨_,rfl⟩:=bN (hy _ (SqL.of (sW _ _ hP.1)));refine gm _ _ _ _ _ (fun σ2 H2 z=>⟨z.1,c9 z.2⟩) (el i hi _ sW (fun v H4=>au H H4/\∃ts',aw i ts++[v]=aw (i+1) ts'/\∀j,j<i+1->PtA H4 (ts' j) (gf (at' cs j))) fun t H4 s4 hp4=>?_);refine⟨sW.trans s4,fun j=>if j<i then ts j else t,fw,fun j hj=>?_⟩
  by_cases e:j<i
  ·dsimp only;rw[if_pos e];exact s4 _ _ (hts j e)
  ·have ej:j=i:=by lia
   subst ej;dsimp only;rw[if_neg e];exact hp4
noncomputable def pT:Sp:=fun vs H Q _=>∃l rf cs k,vs=[.ref l,.int k]/\PLs H l rf cs/\aJ cs/\aF cs/\Sm (10^40) k/\∀r rg H',au H H'->PLs H' r rg (cs.map (grM k))->H r=none->Q (.ref r) H'
section
variable{P:Zv}{w:Zl}{K:Z3}{mg:Str->Option Value}{base:ZF}{f:Addr}{fd:Zf}
theorem pr:aD ["corners","k"] ["corners","k"] (aq iC):=.mk'
theorem t_:(["corner","k"]:List Str).Nodup:=by decide +kernel
theorem mP(F:Fun K "greater" "greater" iC f fd)(B':Cal P w K mg base 6 "refuse_no_fence" ["corners"] eQ):aI P w K mg base CX0 7 f fd ["corners","k"] pT:=by
 refine F.ok pr (by rintro _ _ _ _⟨_,_,_,_,rfl,_⟩;rfl) fun E3 A outer s H vs Q E hr h=>?_
 obtain⟨l,rf,cs,k,rfl,hp,co,fe,sk,q⟩:=h;refine⟨_,aB (aV (ay B' hr (pa1 (pv 0))))
  (ap (aC (fi (bA (N':=["corner","k"]) (own:=1) (ag:=[1]) rfl (aO.of (sc:=aq iC) (N0:=["corners","k"]) rfl rfl (by decide +kernel)) (bp (pv 0)) (fun _ _ _ _ _ _=>(aM (i:=0) t_ rfl (ZQ rfl))) (fun C cl fp aa s₂ H₂=>bQ) (fun _ _ _ _ _ _=>(dW (pa2 (ai a8 (ak bG (pv 0) ad) (pv 1)) (ai a8 (ak bG (pv 0) ad) (pv 1)))))) (xW jC)))),?_⟩
 have l12:=fe.hi;have Bk:Big k:=iu (sk.mono (by decide))
 refine⟨_,rfl,l,rf,cs,rfl,hp,co,fe,fun H1 s1=>?_⟩;refine⟨l,rf,cs,grM k,rfl,hp.mono s1,by lia,(fun i hi H' s' Q' hq=>⟨dC (by decide),?_⟩),fun r rg H' s' hP' hn=>q r rg H' (s1.trans s') hP' (s1.free hn)⟩
 have pp:=SqT.of (K:=K) (s' _ _ (s1 _ _ (hp.2 i hi)));have c:=vd (co i hi);exact⟨_,rfl,_,_,_,_,rfl,rfl,pp,at0,_,rfl,_,_,rfl,rfl,⟨iu (c.1.mono (by decide)),Bk⟩,_,rfl,_,_,_,_,rfl,rfl,pp,at1,_,rfl,_,_,rfl,rfl,⟨iu (c.2.mono (by decide)),Bk⟩,_,_,rfl,fun t H4 s4 p4=>hq t H4 s4 p4⟩
end
end FD
end
section
namespace L2
open PySem PySem.Spec PyProof.Rows
section
variable{X:Cx}
noncomputable def uH(K:Z3):R2:=fun x y H Q=>∃(a l:Addr) (p:Int×Int) (rf:Nat->Addr) (FC:Nat->Int×Int) (n:Nat),x=.ref a/\y=.ref l/\H a=some (.tup [.int p.1,.int p.2])/\SqL K H l ((Z4 n).map fun i=>V.ref (rf i))/\
 (∀i,i<n->H (rf i)=some (.tup [.int (FC i).1,.int (FC i).2]))/\Q (.bl (!(Z4 n).any fun i=>decide (FC i=p))) H
theorem xK(hu:X.A.units+5<cLine):OpR X (compareOp .NotIn) (uH X.K):=by
 intro aa s σ H x y v u Q I rx ry h;obtain⟨a,l,p,rf,FC,n,rfl,rfl,ha,hl,hp,q⟩:=h;cases rx;cases ry;obtain⟨C',r,pl,hz⟩:=I.list hl;have hlen:=r.length;rw[Z6,Zd]at hlen;have its_at:∀i (hi:i<C'.length),C'[i]=.ref (rf i):=by
  intro i hi;obtain⟨u,eu,ru⟩:=r.get (i:=i) (x:=.ref (rf i)) (by rw[Zn,YR (by lia)];rfl)
  rw[Z2 hi]at eu;have e1:=ZH eu;rw[e1];exact ru
 have key:∀i,i<n->ptE H p (.ref (rf i))=decide (FC i=p):=by
  intro i hi;unfold ptE;rw[ZS];simp only[decide_eq_true_eq];rw[hp i hi];constructor
  ·intro e;simp only[Option.some.injEq,HO.tup.injEq,WJ,V.int.injEq,and_true]at e;exact YT e.1 e.2
  ·intro e;rw[e]
 refine SeqAt.notIn_listAt (ptE H p) pl.isList (fun w hw=>?_) ⟨.bl _,H,I,rfl,?_⟩
 ·obtain⟨i,hi,e⟩:=Array.mem_iff_getElem.mp hw;have hi':i<C'.length:=by simpa using hi
  have e2:w=.ref (rf i):=by rw[<-e];simpa using its_at i hi'
  subst e2;rw[key i (by lia)]
  have:=(Cmp.pt (K:=X.K) (SqT.of (hp i (by lia))) (SqT.of ha)).at I (A:=X.A.in1) (u:=.ref (rf i)) (v:=.ref a) rfl rfl (by show X.A.units+1+1<cLine;lia)
  have e3:decide (FC i=p)=decide ((FC i).1=p.1/\(FC i).2=p.2):=by
   rw[ZS];simp only[decide_eq_true_eq];exact⟨fun e=>by rw[e];exact⟨rfl,rfl⟩,fun e=>YT e.1 e.2⟩
  rw[e3];exact this
 ·have:C'.toArray.any (ptE H p)=(Z4 n).any fun i=>decide (FC i=p):=by
   rw[ZS];simp only[List.any_toArray,YA,Zy];constructor
   ·rintro⟨w,hw,e⟩;obtain⟨i,hi,e1⟩:=Xk.mp hw;rw[its_at i hi]at e1;subst e1;exact⟨i,by lia,by rw[<-key i (by lia)];exact e⟩
   ·rintro⟨i,hi,e⟩;have hi':i<C'.length:=by lia
    exact⟨.ref (rf i),by rw[<-its_at i hi'];exact YC hi',by rw[key i hi];exact e⟩
  rw[this];exact q
theorem wk{K:Z3}(hK:X.K=K)(hu:X.A.units+5<cLine):OpR X (compareOp .NotIn) (uH K):=hK ▸ xK hu
theorem Bq{K:Z3}(hK:X.K=K)(hu:X.A.units+5<cLine):OpR X (compareOp .NotEq) (CN K):=hK ▸ DJ hu
end
end L2
end
section
namespace FF
noncomputable def Xf(u v:Int)(p:Pt):Int:=u*p.1+v*p.2
noncomputable def Btw(x y z:Int):Prop:=(x<y/\y<z)\/(z<y/\y<x)
theorem tm(u v:Int)(a b c r:Pt):turn b c r*(Xf u v a-Xf u v r)+turn c a r*(Xf u v b-Xf u v r)+turn a b r*(Xf u v c-Xf u v r)=0:=by
 unfold turn Xf;grind
theorem jO(a b c r:Pt):turn a b r+turn b c r+turn c a r=turn a b c:=by unfold turn;grind
theorem gN(a b c:Pt):turn b c a=turn a b c:=by unfold turn;grind
noncomputable def dj(a b c r:Pt):Prop:=0<=turn a b r/\0<=turn b c r/\0<=turn c a r
theorem bal{p q r A B C:Int}(e:p*A+q*B+r*C=0)(hA:A<0)(hB:0<B)(hC:0<C)(hq:0<=q)(hr:0<r):0<p:=by
 have h1:=Int.mul_nonneg hq (Int.le_of_lt hB);have h2:=Int.mul_pos hr hC;apply Z9;intro hp;have h3:=Int.mul_nonneg (show 0<=-p by lia) (show 0<=-A by lia)
 rw[Int.neg_mul_neg]at h3;lia
theorem C9{p q r A B C:Int}(e:p*A+q*B+r*C=0)(hA:0<A)(hB:B<0)(hC:C<0)(hq:0<=q)(hr:0<r):0<p:=by
 refine bal (A:=-A) (B:=-B) (C:=-C) (q:=q) (r:=r) ?_ (by lia) (by lia) (by lia) hq hr
 rw[Int.mul_neg,Int.mul_neg,Int.mul_neg];lia
theorem DT(u v:Int){a b c r:Pt}(Gw:Btw (Xf u v a) (Xf u v r) (Xf u v c))(hb:0<=turn c a r)
  (h:(Btw (Xf u v a) (Xf u v r) (Xf u v b)/\0<turn a b r)\/(Btw (Xf u v b) (Xf u v r) (Xf u v c)/\0<turn b c r)):dj a b c r:=by
 have e:=tm u v a b c r;unfold Btw at *
 rcases h with ⟨h,t⟩|⟨h,t⟩
 ·refine⟨by lia,?_,hb⟩
  rcases Gw with k|k
  ·exact Int.le_of_lt (bal e (by lia) (by lia) (by lia) hb t)
  ·exact Int.le_of_lt (C9 e (by lia) (by lia) (by lia) hb t)
 ·refine⟨?_,by lia,hb⟩
  have e2:turn a b r*(Xf u v c-Xf u v r)+turn c a r*(Xf u v b-Xf u v r)+turn b c r*(Xf u v a-Xf u v r)=0:=by lia
  rcases Gw with k|k
  ·exact Int.le_of_lt (C9 e2 (by lia) (by lia) (by lia) hb t)
  ·exact Int.le_of_lt (bal e2 (by lia) (by lia) (by lia) hb t)
theorem f9(u v:Int){a b c r:Pt}(hp:0<turn a b c)(h:dj a b c r){m:Int}(ha:Xf u v a<=m)(hb:Xf u v b<=m)(hc:Xf u v c<=m):Xf u v r<=m:=by
 have e:=tm u v a b c r;have s:=jO a b c r;obtain⟨h1,h2,h3⟩:=h;apply Z9;intro k;have k1:=Int.mul_nonneg h2 (show 0<=Xf u v r-Xf u v a-1 by lia)
 have k2:=Int.mul_nonneg h3 (show 0<=Xf u v r-Xf u v b-1 by lia)
 have k3:=Int.mul_nonneg h1 (show 0<=Xf u v r-Xf u v c-1 by lia)
 have g1:turn b c r*(Xf u v r-Xf u v a-1)=- (turn b c r*(Xf u v a-Xf u v r))-turn b c r:=by grind
 have g2:turn c a r*(Xf u v r-Xf u v b-1)=- (turn c a r*(Xf u v b-Xf u v r))-turn c a r:=by grind
 have g3:turn a b r*(Xf u v r-Xf u v c-1)=- (turn a b r*(Xf u v c-Xf u v r))-turn a b r:=by grind
 lia
theorem iT(u v:Int){a b c r:Pt}(hp:0<turn a b c)(h:dj a b c r){m:Int}(ha:m<=Xf u v a)(hb:m<=Xf u v b)(hc:m<=Xf u v c):m<=Xf u v r:=by
 have n:∀p:Pt,Xf (-u) (-v) p=- Xf u v p:=fun p=>by unfold Xf;grind
 have:=f9 (-u) (-v) hp h (m:=-m) (by rw[n];lia) (by rw[n];lia) (by rw[n];lia)
 rw[n]at this;lia
theorem lE(u v s:Int)(W:Nat->Pt)(m:Nat)(hX:∀j,j<m->Xf u v (W j)<Xf u v (W (j+1)))(hb:∀j,j+1<m->s*turn (W j) (W (j+1)) (W (j+2))<=0):
  ∀j,j+1<=m->s*((W 1).1-(W 0).1)*((W (j+1)).2-(W j).2)-s*((W 1).2-(W 0).2)*((W (j+1)).1-(W j).1)<=0/\s*turn (W 0) (W 1) (W (j+1))<=0
 |0,h=>by
  refine⟨Int.le_of_eq ?_,Int.le_of_eq ?_⟩
  ·show s*((W 1).1-(W 0).1)*((W 1).2-(W 0).2)-s*((W 1).2-(W 0).2)*((W 1).1-(W 0).1)=0;grind
  ·show s*turn (W 0) (W 1) (W 1)=0;unfold turn;grind
 |j+1,h=>by
  have ih:=lE u v s W m hX hb j (by lia)
  have x0:=hX 0 (by lia)
  have x1:=hX j (by lia)
  have x2:=hX (j+1) (by lia)
  have b:=hb j (by lia)
  obtain⟨i1,i2⟩:=ih;have key:s*((W 1).1-(W 0).1)*((W (j+1+1)).2-(W (j+1)).2)-s*((W 1).2-(W 0).2)*((W (j+1+1)).1-(W (j+1)).1)<=0:=by
   have eq:(Xf u v (W (j+1))-Xf u v (W j))*(s*((W 1).1-(W 0).1)*((W (j+1+1)).2-(W (j+1)).2)-s*((W 1).2-(W 0).2)*((W (j+1+1)).1-(W (j+1)).1)) =
     (Xf u v (W (j+1+1))-Xf u v (W (j+1)))*(s*((W 1).1-(W 0).1)*((W (j+1)).2-(W j).2)-s*((W 1).2-(W 0).2)*((W (j+1)).1-(W j).1))+(Xf u v (W 1)-Xf u v (W 0))*(s*turn (W j) (W (j+1)) (W (j+2))):=by
    unfold Xf turn;grind
   have p1:=Int.mul_nonneg (show 0<=Xf u v (W (j+1+1))-Xf u v (W (j+1)) by lia) (show 0<=-(s*((W 1).1-(W 0).1)*((W (j+1)).2-(W j).2)-s*((W 1).2-(W 0).2)*((W (j+1)).1-(W j).1)) by lia)
   have p2:=Int.mul_nonneg (show 0<=Xf u v (W 1)-Xf u v (W 0) by lia) (show 0<=-(s*turn (W j) (W (j+1)) (W (j+2))) by lia)
   rw[Int.mul_neg]at p1 p2;have p3:0<=(Xf u v (W (j+1))-Xf u v (W j))*-(s*((W 1).1-(W 0).1)*((W (j+1+1)).2-(W (j+1)).2)-s*((W 1).2-(W 0).2)*((W (j+1+1)).1-(W (j+1)).1)):=by
    rw[Int.mul_neg,eq];lia
   have:=dQ (show 0<Xf u v (W (j+1))-Xf u v (W j) by lia) p3
   lia
  refine⟨key,?_⟩;have e:s*turn (W 0) (W 1) (W (j+1+1))=s*turn (W 0) (W 1) (W (j+1))+(s*((W 1).1-(W 0).1)*((W (j+1+1)).2-(W (j+1)).2)-s*((W 1).2-(W 0).2)*((W (j+1+1)).1-(W (j+1)).1)):=by
   unfold turn;grind
  rw[e];lia
noncomputable def Eh(u v:Int)(n:Nat)(g:Nat->Pt)(i:Nat):Prop:=∀t,t<n->t≠i->t≠i+1->t≠i+2->Xf u v (g t)<Xf u v (g i)\/Xf u v (g (i+2))<Xf u v (g t)
theorem pK(u v s:Int){n:Nat}{g:Nat->Pt}(inj:∀i j,i<n->j<n->Xf u v (g i)=Xf u v (g j)->i=j)(mn:∀i,0<i->i<n->Xf u v (g 0)<Xf u v (g i))
  (un:∀i j k,1<=i->i<j->j<k->k<n->¬(Xf u v (g j)<Xf u v (g i)/\Xf u v (g j)<Xf u v (g k))){m:Nat}(m2:2<=m)(Gx:m+1<n)(hm:Xf u v (g m)<Xf u v (g (n-1)))
  (ht:0<s*turn (g 0) (g 1) (g m)):∃i,i+2<=m/\0<s*turn (g i) (g (i+1)) (g (i+2))/\Xf u v (g i)<Xf u v (g (i+1))/\Xf u v (g (i+1))<Xf u v (g (i+2))/\Eh u v n g i:=by
 have inc:∀j,j<m->Xf u v (g j)<Xf u v (g (j+1)):=by
  intro j hj;rcases Nat.eq_zero_or_pos j with e|e
  ·subst e;exact mn _ (by lia) (by lia)
  ·apply Z9;intro c;have c1:Xf u v (g (j+1))<Xf u v (g j):=by
    have:Xf u v (g j)≠Xf u v (g (j+1)):=fun z=>by have:=inj _ _ (by lia) (by lia) z;lia
    lia
   have u1:=un j (j+1) (n-1) (by lia) (by lia) (by lia) (by lia)
   have c2:¬Xf u v (g (j+1))<Xf u v (g (n-1)):=fun z=>u1 ⟨c1,z⟩;have jm:j+1≠m:=fun z=>by rw[z]at c2;exact c2 hm
   have u2:=un (j+1) m (n-1) (by lia) (by lia) (by lia) (by lia)
   exact u2 ⟨by lia,hm⟩
 have mono:∀d i,i+d<=m->Xf u v (g i)<=Xf u v (g (i+d)):=by
  intro d
  induction d with
  |zero=>intro i _;exact Int.le_refl _
  |succ d ih=>intro i h;have h1:=ih i (by lia);have h2:=inc (i+d) (by lia);rw[show i+(d+1)=i+d+1 by lia];lia
 have lt:∀i j,i<j->j<=m->Xf u v (g i)<Xf u v (g j):=by
  intro i j hij hj;have h1:=inc i (by lia)
  have h2:=mono (j-(i+1)) (i+1) (by lia)
  rw[show i+1+(j-(i+1))=j by lia]at h2
  lia
 have ex:∃i,i+2<=m/\0<s*turn (g i) (g (i+1)) (g (i+2)):=by
  apply Z9;intro no;have cb:=lE u v s g m inc (fun j hj=>by
   apply Z9;intro c;exact no ⟨j,by lia,by lia⟩) (m-1) (by lia)
  rw[show m-1+1=m by lia]at cb
  lia
 obtain⟨i,im,it⟩:=ex;refine⟨i,im,it,inc i (by lia),inc (i+1) (by lia),fun t tn t0 t1 t2=>?_⟩
 by_cases c:t<i
 ·left;exact lt t i c (by lia)
 ·right;by_cases c2:t<=m
  ·exact lt (i+2) t (by lia) c2
  ·apply Z9;intro k;have ne:Xf u v (g t)≠Xf u v (g (i+2)):=fun z=>by have:=inj _ _ tn (by lia) z;lia
   have l2:Xf u v (g (i+2))<=Xf u v (g m):=by
    have:=mono (m-(i+2)) (i+2) (by lia)
    rw[show i+2+(m-(i+2))=m by lia]at this;exact this
   have tn1:t≠n-1:=fun z=>by rw[z]at k ne;lia
   exact un (i+2) t (n-1) (by lia) (by lia) (by lia) (by lia) ⟨by lia,by lia⟩
theorem Dv{u v:Int}{a b c r:Pt}(hp:0<turn a b c)(h1:Xf u v a<Xf u v b)(h2:Xf u v b<Xf u v c)(h:Xf u v r<Xf u v a\/Xf u v c<Xf u v r):¬dj a b c r:=fun k=>by
 have k1:=f9 u v hp k (m:=Xf u v c) (by lia) (by lia) (by lia)
 have k2:=iT u v hp k (m:=Xf u v a) (by lia) (by lia) (by lia)
 lia
theorem BI{u v:Int}{a b c r:Pt}(hp:0<turn a b c)(h1:Xf u v c<Xf u v b)(h2:Xf u v b<Xf u v a)(h:Xf u v r<Xf u v c\/Xf u v a<Xf u v r):¬dj a b c r:=fun k=>by
 have k1:=f9 u v hp k (m:=Xf u v a) (by lia) (by lia) (by lia)
 have k2:=iT u v hp k (m:=Xf u v c) (by lia) (by lia) (by lia)
 lia
noncomputable def kA(n:Nat)(g:Nat->Pt)(k:Nat):Prop:=0<turn (g k) (g (nx n k)) (g (nx n (nx n k)))/\∀t,t<n->t≠k->t≠nx n k->t≠nx n (nx n k)->¬dj (g k) (g (nx n k)) (g (nx n (nx n k))) (g t)
theorem qH{p q x y:Int}(hp:0<=p)(hq:0<=q)(hx:x<0)(hy:y<0)(e:p*x+q*y=0):p=0/\q=0:=by
 have h1:=Int.mul_nonneg hp (show 0<=-x-1 by lia)
 have h2:=Int.mul_nonneg hq (show 0<=-y-1 by lia)
 have e1:p*(-x-1)=-(p*x)-p:=by grind
 have e2:q*(-y-1)=-(q*y)-q:=by grind
 lia
theorem zq(a b c:Pt):turn c b a=- turn a b c:=by unfold turn;grind
noncomputable def rvF(n:Nat)(g:Nat->Pt)(j:Nat):Pt:=if j=0 then g 0 else g (n-j)
theorem vJ(u v:Int){n:Nat}{g:Nat->Pt}(n3:3<=n)(inj:∀i j,i<n->j<n->Xf u v (g i)=Xf u v (g j)->i=j)(mn:∀i,0<i->i<n->Xf u v (g 0)<Xf u v (g i))
  (un:∀i j k,1<=i->i<j->j<k->k<n->¬(Xf u v (g j)<Xf u v (g i)/\Xf u v (g j)<Xf u v (g k)))
  (N:∀k r,k<n->r<n->Btw (Xf u v (g k)) (Xf u v (g r)) (Xf u v (g (nx n k)))->0<turn (g k) (g (nx n k)) (g r)):∃k,k<n/\kA n g k:=by
 have x1:=mn 1 (by lia) (by lia)
 have x2:=mn (n-1) (by lia) (by lia)
 have xne:Xf u v (g 1)≠Xf u v (g (n-1)):=fun z=>by have:=inj _ _ (by lia) (by lia) z;lia
 have e0:nx n 0=1:=by unfold nx;rw[if_neg (by lia)]
 have e1:nx n (n-1)=0:=by unfold nx;rw[if_pos (by lia)]
 have nxs:∀i,i+1<n->nx n i=i+1:=fun i h=>by unfold nx;rw[if_neg (by lia)]
 have tp:0<turn (g (n-1)) (g 0) (g 1):=by
  by_cases c:Xf u v (g 1)<Xf u v (g (n-1))
  ·have:=N (n-1) 1 (by lia) (by lia) (by rw[e1];exact .inr ⟨x1,c⟩)
   rw[e1]at this;exact this
  ·have:=N 0 (n-1) (by lia) (by lia) (by rw[e0];exact .inl ⟨x2,by lia⟩)
   rw[e0]at this;rw[<-gN];exact this
 by_cases em:∃m,2<=m/\m+1<n/\dj (g (n-1)) (g 0) (g 1) (g m)
 ·obtain⟨m,m2,Gx,hm⟩:=em;have x0m:=mn m (by lia) (by lia)
  have by0:=tm u v (g (n-1)) (g 0) (g 1) (g m);have sm:=jO (g (n-1)) (g 0) (g 1) (g m);obtain⟨h1,h2,h3⟩:=hm;have hm:dj (g (n-1)) (g 0) (g 1) (g m):=⟨h1,h2,h3⟩;by_cases c:Xf u v (g 1)<Xf u v (g (n-1))
  ·have r1:=f9 u v tp hm (m:=Xf u v (g (n-1))) (Int.le_refl _) (by lia) (by lia)
   have r2:Xf u v (g m)≠Xf u v (g (n-1)):=fun z=>by have:=inj _ _ (by lia) (by lia) z;lia
   have r3:Xf u v (g 1)<Xf u v (g m):=by
    have r4:Xf u v (g 1)≠Xf u v (g m):=fun z=>by have:=inj _ _ (by lia) (by lia) z;lia
    apply Z9;intro k;exact un 1 m (n-1) (by lia) (by lia) (by lia) (by lia) ⟨by lia,by lia⟩
   have tz:turn (g 0) (g 1) (g m)≠0:=fun z=>by
    rw[z,Int.zero_mul,Int.zero_add]at by0
    have:=qH h3 h1 (by lia) (by lia) by0
    lia
   obtain⟨i,im,it,g1,g2,al⟩:=pK u v 1 inj mn un m2 Gx (by lia) (by rw[Int.one_mul];lia)
   rw[Int.one_mul]at it;refine⟨i,by lia,?_⟩
   unfold kA;rw[nxs i (by lia),nxs (i+1) (by lia)]
   exact⟨it,fun t tn t0 t1 t2=>Dv it g1 g2 (al t tn t0 t1 t2)⟩
  ·have c:Xf u v (g (n-1))<Xf u v (g 1):=by lia
   have r1:=f9 u v tp hm (m:=Xf u v (g 1)) (by lia) (by lia) (Int.le_refl _)
   have r2:Xf u v (g m)≠Xf u v (g 1):=fun z=>by have:=inj _ _ (by lia) (by lia) z;lia
   have r3:Xf u v (g (n-1))<Xf u v (g m):=by
    have r4:Xf u v (g (n-1))≠Xf u v (g m):=fun z=>by have:=inj _ _ (by lia) (by lia) z;lia
    apply Z9;intro k;exact un 1 m (n-1) (by lia) (by lia) (by lia) (by lia) ⟨by lia,by lia⟩
   have tz:turn (g (n-1)) (g 0) (g m)≠0:=fun z=>by
    rw[z,Int.zero_mul,Int.add_zero]at by0
    have:=qH h2 h3 (by lia) (by lia) by0
    lia
   have rv:∀j,0<j->j<n->rvF n g j=g (n-j):=fun j h _=>if_neg (by lia)
   have rv0:rvF n g 0=g 0:=rfl;obtain⟨i,im,it,g1,g2,al⟩:=pK u v (-1) (n:=n) (g:=rvF n g) (m:=n-m) (fun i j hi hj e=>by
     by_cases ci:i=0<;>by_cases cj:j=0
     ·lia
     ·rw[ci,rv0,rv j (by lia) hj]at e
      have:=inj 0 (n-j) (by lia) (by lia) e;lia
     ·rw[cj,rv0,rv i (by lia) hi]at e
      have:=inj (n-i) 0 (by lia) (by lia) e;lia
     ·rw[rv i (by lia) hi,rv j (by lia) hj]at e
      have:=inj (n-i) (n-j) (by lia) (by lia) e;lia)
    (fun i h0 hi=>by rw[rv0,rv i h0 hi];exact mn _ (by lia) (by lia))
    (fun i j k h1 hij hjk hk z=>by
     rw[rv i (by lia) (by lia),rv j (by lia) (by lia),rv k (by lia) (by lia)]at z
     exact un (n-k) (n-j) (n-i) (by lia) (by lia) (by lia) (by lia) ⟨z.2,z.1⟩) (by lia) (by lia)
    (by rw[rv (n-m) (by lia) (by lia),rv (n-1) (by lia) (by lia),show n-(n-m)=m by lia,show n-(n-1)=1 by lia];lia)
    (by
     rw[rv0,rv 1 (by lia) (by lia),rv (n-m) (by lia) (by lia),show n-(n-m)=m by lia]
     show 0 < -1*turn (g 0) (g (n-1)) (g m);rw[km (g (n-1)) (g 0) (g m)];lia)
   rw[rv (i+1) (by lia) (by lia),rv (i+2) (by lia) (by lia)]at it
   rw[rv (i+1) (by lia) (by lia)]at g1 g2
   rw[rv (i+2) (by lia) (by lia)]at g2
   have it':0<turn (g (n-(i+2))) (g (n-(i+1))) (rvF n g i):=by rw[zq];lia
   have q1:nx n (n-(i+2))=n-(i+1):=by rw[nxs _ (by lia)];lia
   have q2:g (nx n (n-(i+1)))=rvF n g i:=by
    by_cases ci:i=0
    ·rw[ci,e1];rfl
    ·rw[rv i (by lia) (by lia),nxs _ (by lia)];congr 1;lia
   refine⟨n-(i+2),by lia,?_⟩
   unfold kA;rw[q1,q2];refine⟨it',fun t tn t0 t1 t2=>BI (u:=u) (v:=v) it' g1 g2 ?_⟩;have t2':t≠0->t≠n-i:=fun z0 z=>by
    apply t2;by_cases ci:i=0
    ·lia
    ·rw[nxs _ (by lia)];lia
   by_cases tz0:t=0
   ·subst tz0;by_cases ci:i=0
    ·exfalso;apply t2;rw[ci];exact e1.symm
    ·have:=al 0 (by lia) (by lia) (by lia) (by lia)
     rw[rv0,rv (i+2) (by lia) (by lia)]at this
     exact this
   ·have:=al (n-t) (by lia) (fun z=>t2' tz0 (by lia)) (by lia) (by lia)
    rw[rv (n-t) (by lia) (by lia),rv (i+2) (by lia) (by lia),show n-(n-t)=t by lia]at this
    exact this
 ·refine⟨n-1,by lia,?_⟩
  unfold kA;rw[e1,e0];exact⟨tp,fun t tn t0 t1 t2 k=>em ⟨t,by lia,by lia,k⟩⟩
end FF
end
section
namespace FF
structure bz(u v:Int)(n:Nat)(g:Nat->Pt):Prop where
 n3:3<=n
 inj:∀i j,i<n->j<n->Xf u v (g i)=Xf u v (g j)->i=j
 un:∀i j k l,i<j->j<k->k<l->l<n->¬(Xf u v (g i)<Xf u v (g j)/\Xf u v (g k)<Xf u v (g j)/\Xf u v (g i)<Xf u v (g l)/\Xf u v (g k)<Xf u v (g l))/\
  ¬(Xf u v (g j)<Xf u v (g i)/\Xf u v (g j)<Xf u v (g k)/\Xf u v (g l)<Xf u v (g i)/\Xf u v (g l)<Xf u v (g k))
 N:∀k r,k<n->r<n->Btw (Xf u v (g k)) (Xf u v (g r)) (Xf u v (g (nx n k)))->0<turn (g k) (g (nx n k)) (g r)
noncomputable def bU(n s i:Nat):Nat:=if i+s<n then i+s else i+s-n
theorem fO{n s i:Nat}(hs:s<n)(hi:i<n):bU n s i<n:=by unfold bU;split<;>lia
theorem gO{n s i:Nat}(hs:s<n)(hi:i<n):bU n s (nx n i)=nx n (bU n s i):=by unfold bU nx;repeat' split<;>lia
theorem qS{n s i j:Nat}(hs:s<n)(hi:i<n)(hj:j<n)(e:bU n s i=bU n s j):i=j:=by unfold bU at e;split at e<;>split at e<;>lia
theorem bz.rot{u v:Int}{n:Nat}{g:Nat->Pt}(M:bz u v n g){s:Nat}(hs:s<n):bz u v n (fun i=>g (bU n s i)):=by
 refine⟨M.n3,fun i j hi hj e=>qS hs hi hj (M.inj _ _ (fO hs hi) (fO hs hj) e),fun i j k l hij hjk hkl hl=>?_,fun k r hk hr h=>?_⟩
 ·have U:=M.un;by_cases c1:i+s<n
  ·by_cases c2:j+s<n
   ·by_cases c3:k+s<n
    ·by_cases c4:l+s<n
     ·have:=U (i+s) (j+s) (k+s) (l+s) (by lia) (by lia) (by lia) (by lia)
      unfold bU;rw[if_pos c1,if_pos c2,if_pos c3,if_pos c4];exact this
     ·have:=U (l+s-n) (i+s) (j+s) (k+s) (by lia) (by lia) (by lia) (by lia)
      unfold bU;rw[if_pos c1,if_pos c2,if_pos c3,if_neg c4];exact⟨fun z=>this.2 ⟨z.2.2.1,z.1,z.2.2.2,z.2.1⟩,fun z=>this.1 ⟨z.2.2.1,z.1,z.2.2.2,z.2.1⟩⟩
    ·have:=U (k+s-n) (l+s-n) (i+s) (j+s) (by lia) (by lia) (by lia) (by lia)
     unfold bU;rw[if_pos c1,if_pos c2,if_neg c3,if_neg (by lia)]
     exact⟨fun z=>this.1 ⟨z.2.2.2,z.2.2.1,z.2.1,z.1⟩,fun z=>this.2 ⟨z.2.2.2,z.2.2.1,z.2.1,z.1⟩⟩
   ·have:=U (j+s-n) (k+s-n) (l+s-n) (i+s) (by lia) (by lia) (by lia) (by lia)
    unfold bU;rw[if_pos c1,if_neg c2,if_neg (by lia),if_neg (by lia)]
    exact⟨fun z=>this.2 ⟨z.2.1,z.2.2.2,z.1,z.2.2.1⟩,fun z=>this.1 ⟨z.2.1,z.2.2.2,z.1,z.2.2.1⟩⟩
  ·have:=U (i+s-n) (j+s-n) (k+s-n) (l+s-n) (by lia) (by lia) (by lia) (by lia)
   unfold bU;rw[if_neg c1,if_neg (by lia),if_neg (by lia),if_neg (by lia)];exact this
 ·have:=M.N (bU n s k) (bU n s r) (fO hs hk) (fO hs hr)
  rw[<-gO hs hk]at this;exact this h
theorem yu(f:Nat->Int):∀n:Nat,0<n->∃s,s<n/\∀i,i<n->f s<=f i
 |1,_=>⟨0,by lia,fun i hi=>by rw[show i=0 by lia];exact Int.le_refl _⟩
 |n+2,_=>by
  obtain⟨s,hs,h⟩:=yu f (n+1) (by lia)
  by_cases c:f s<=f (n+1)
  ·refine⟨s,by lia,fun i hi=>?_⟩
   by_cases e:i=n+1
   ·rw[e];exact c
   ·exact h i (by lia)
  ·refine⟨n+1,by lia,fun i hi=>?_⟩
   by_cases e:i=n+1
   ·rw[e];exact Int.le_refl _
   ·have:=h i (by lia);lia
theorem bz.ear{u v:Int}{n:Nat}{g:Nat->Pt}(M:bz u v n g):∃k,k<n/\kA n g k:=by
 have n3:=M.n3;obtain⟨s,hs,mn⟩:=yu (fun i=>Xf u v (g i)) n (by lia)
 have R:=M.rot hs;have z0:bU n s 0=s:=by unfold bU;rw[if_pos (by lia)];lia
 have mn':∀i,0<i->i<n->Xf u v (g (bU n s 0))<Xf u v (g (bU n s i)):=fun i h0 hi=>by
  have h1:=mn (bU n s i) (fO hs hi);rw[z0];have ne:Xf u v (g s)≠Xf u v (g (bU n s i)):=fun e=>by
   have:=M.inj _ _ hs (fO hs hi) e
   have:=qS hs (by lia) hi (z0.trans this);lia
  lia
 obtain⟨k,hk,e1,e2⟩:=vJ u v (g:=fun i=>g (bU n s i)) n3 R.inj mn' (fun i j k h1 hij hjk hk z=>(R.un 0 i j k (by lia) hij hjk hk).1 ⟨mn' i (by lia) (by lia),z.1,mn' k (by lia) hk,z.2⟩) R.N
 refine⟨bU n s k,fO hs hk,?_⟩;dsimp only at e1 e2;rw[gO hs (aK hk),gO hs hk]at e1 e2;refine⟨e1,fun t tn t0 t1 t2=>?_⟩;obtain⟨j,hj,rfl⟩:∃j,j<n/\bU n s j=t:=by
  refine⟨if s<=t then t-s else t+n-s,by split<;>lia,?_⟩
  unfold bU;split<;>split<;>lia
 refine e2 j hj (fun z=>t0 (by rw[z])) (fun z=>t1 (by rw[z,gO hs hk])) (fun z=>t2 (by rw[z,gO hs (aK hk),gO hs hk]))
theorem yF{a x b c:Int}(h:Btw a x c)(e:x≠b):Btw a x b\/Btw b x c:=by unfold Btw at *;lia
noncomputable def skp(b i:Nat):Nat:=if i<b then i else i+1
theorem Dk(b i:Nat):skp b i≠b:=by unfold skp;split<;>lia
theorem iD{n b i:Nat}(h:i+1<n):skp b i<n:=by unfold skp;split<;>lia
theorem gj{b i j:Nat}(h:i<j):skp b i<skp b j:=by unfold skp;split<;>split<;>lia
theorem Dz{n b k:Nat}(hb:b<n)(hk:k+1<n):skp b (nx (n-1) k)=if nx n (skp b k)=b then nx n b else nx n (skp b k):=by
 unfold skp nx;repeat' split<;>lia
theorem DF{n i j:Nat}(hi:i<n)(hj:j<n)(e:nx n i=nx n j):i=j:=by unfold nx at e;split at e<;>split at e<;>lia
theorem bz.cut{u v:Int}{n:Nat}{g:Nat->Pt}(M:bz u v n g)(n4:4<=n){a:Nat}(ha:a<n)(E:kA n g a):bz u v (n-1) (fun i=>g (skp (nx n a) i)):=by
 have hb:=aK ha;have hc:=aK hb;refine⟨by lia,fun i j hi hj e=>?_,fun i j k l hij hjk hkl hl=>M.un _ _ _ _ (gj hij) (gj hjk) (gj hkl) (iD (by lia)),fun k r hk hr h=>?_⟩
 ·have:=M.inj _ _ (iD (by lia)) (iD (by lia)) e
  rcases Nat.lt_trichotomy i j with c|c|c
  ·have:=gj (b:=nx n a) c;lia
  ·exact c
  ·have:=gj (b:=nx n a) c;lia
 ·
  have hk':=iD (n:=n) (b:=nx n a) (i:=k) (by lia)
  have hr':=iD (n:=n) (b:=nx n a) (i:=r) (by lia)
  have rb:=Dk (nx n a) r;rw[Dz hb (by lia)]at h ⊢
  by_cases c:nx n (skp (nx n a) k)=nx n a
  ·rw[if_pos c]at h ⊢;have ek:skp (nx n a) k=a:=DF hk' ha c;rw[ek]at h ⊢;apply Z9;intro no;have tc:0<=turn (g (nx n (nx n a))) (g a) (g (skp (nx n a) r)):=by rw[km];lia
   have xb:Xf u v (g (skp (nx n a) r))≠Xf u v (g (nx n a)):=fun e=>rb (M.inj _ _ hr' hb e);have ra:skp (nx n a) r≠a:=fun e=>by rw[e]at h;unfold Btw at h;lia
   have rc:skp (nx n a) r≠nx n (nx n a):=fun e=>by rw[e]at h;unfold Btw at h;lia
   refine E.2 _ hr' ra rb rc (DT u v h tc ?_);have N1:=M.N a _ ha hr';have N2:=M.N (nx n a) _ hb hr';generalize Xf u v (g (skp (nx n a) r))=x at *
   have:Btw (Xf u v (g a)) x (Xf u v (g (nx n a)))\/Btw (Xf u v (g (nx n a))) x (Xf u v (g (nx n (nx n a)))):=yF h xb
   rcases this with q|q
   ·exact .inl ⟨q,N1 q⟩
   ·exact .inr ⟨q,N2 q⟩
  ·rw[if_neg c]at h ⊢;exact M.N _ _ hk' hr' h
theorem bz.three{u v:Int}{g:Nat->Pt}(M:bz u v 3 g):0<turn (g 0) (g 1) (g 2):=by
 obtain⟨k,hk,e,_⟩:=M.ear
 match k,hk with
 |0,_=>exact e
 |1,_=>have e:0<turn (g 1) (g 2) (g 0):=e;rw[gN]at e;exact e
 |2,_=>have e:0<turn (g 2) (g 0) (g 1):=e;rw[<-gN]at e;exact e
end FF
end
section
namespace FF
theorem ii{u v p q c:Int}(hu:0<u)(hv:0<v)(e:u*p+v*q=(u+v)*c)(h:p<q):p<c/\c<q:=by
 have h1:=Int.mul_pos hv (show 0<q-p by lia)
 have h2:=Int.mul_pos hu (show 0<q-p by lia)
 have e1:(u+v)*(c-p)=v*(q-p):=by grind
 have e2:(u+v)*(q-c)=u*(q-p):=by grind
 have k1:=dF (show 0<u+v by lia) (show 0<(u+v)*(c-p) by rw[e1];exact h1)
 have k2:=dF (show 0<u+v by lia) (show 0<(u+v)*(q-c) by rw[e2];exact h2)
 lia
theorem bu.lin{p q c:Pt}(h:bu p q c)(f g:Int):∃s t:Int,0<s/\0<t/\s*Xf f g p+t*Xf f g q=(s+t)*Xf f g c:=by
 obtain⟨s,t,hs,ht,e1,e2⟩:=h;refine⟨s,t,hs,ht,?_⟩;unfold Xf;grind
theorem bu.btw{u v:Int}{p q c:Pt}(h:bu p q c)(ne:Xf u v p≠Xf u v q):Btw (Xf u v p) (Xf u v c) (Xf u v q):=by
 obtain⟨s,t,hs,ht,e⟩:=h.lin u v;rcases Int.lt_or_gt_of_ne ne with k|k
 ·exact .inl (ii hs ht e k)
 ·have:=ii ht hs (p:=Xf u v q) (q:=Xf u v p) (c:=Xf u v c) (by rw[Int.add_comm t s,<-e];lia) k
  exact .inr this
noncomputable def insF(c:Pt)(g:Nat->Pt):Nat->Pt
 |0=>c
 |i+1=>g i
theorem qD{p q c:Pt}{s t:Int}(e1:s*p.1+t*q.1=(s+t)*c.1)(e2:s*p.2+t*q.2=(s+t)*c.2)(a b:Pt):(s+t)*turn a b c=s*turn a b p+t*turn a b q:=by
 unfold turn;grind
theorem bz.ins{u v:Int}{n:Nat}{g:Nat->Pt}(M:bz u v n g){c:Pt}(hc:bu (g (n-1)) (g 0) c)(Gy:∀i,i<n->Xf u v c≠Xf u v (g i))
  (H:∀k,k+1<n->Btw (Xf u v (g k)) (Xf u v c) (Xf u v (g (k+1)))->0<turn (g k) (g (k+1)) c):bz u v (n+1) (insF c g):=by
 have n3:=M.n3;have ne:Xf u v (g (n-1))≠Xf u v (g 0):=fun e=>by have:=M.inj _ _ (by lia) (by lia) e;lia
 have bt:=hc.btw ne;have en:nx n (n-1)=0:=by unfold nx;rw[if_pos (by lia)]
 refine⟨by lia,fun i j hi hj e=>?_,fun i j k l hij hjk hkl hl=>?_,fun k r hk hr h=>?_⟩
 ·match i,j,hi,hj,e with
  |0,0,_,_,_=>rfl
  |0,j+1,_,hj,e=>exact absurd e (Gy j (by lia))
  |i+1,0,hi,_,e=>exact absurd e.symm (Gy i (by lia))
  |i+1,j+1,hi,hj,e=>rw[M.inj i j (by lia) (by lia) e]
 ·obtain⟨j,rfl⟩:∃j',j=j'+1:=⟨j-1,by lia⟩
  obtain⟨k,rfl⟩:∃k',k=k'+1:=⟨k-1,by lia⟩
  obtain⟨l,rfl⟩:∃l',l=l'+1:=⟨l-1,by lia⟩
  match i,hij with
  |i+1,hij=>exact M.un i j k l (by lia) (by lia) (by lia) (by lia)
  |0,_=>
   show ¬(Xf u v c<Xf u v (g j)/\Xf u v (g k)<Xf u v (g j)/\Xf u v c<Xf u v (g l)/\Xf u v (g k)<Xf u v (g l))/\¬(Xf u v (g j)<Xf u v c/\Xf u v (g j)<Xf u v (g k)/\Xf u v (g l)<Xf u v c/\Xf u v (g l)<Xf u v (g k));refine⟨fun ⟨z1,z2,z3,z4⟩=>?_,fun ⟨z1,z2,z3,z4⟩=>?_⟩
   ·rcases bt with b|b
    ·have l1:l≠n-1:=fun e=>by rw[e]at z3;lia
     exact (M.un j k l (n-1) (by lia) (by lia) (by lia) (by lia)).2 ⟨by lia,by lia,by lia,by lia⟩
    ·have j1:j≠0:=fun e=>by rw[e]at z1;lia
     exact (M.un 0 j k l (by lia) (by lia) (by lia) (by lia)).1 ⟨by lia,by lia,by lia,by lia⟩
   ·rcases bt with b|b
    ·have j1:j≠0:=fun e=>by rw[e]at z1;lia
     exact (M.un 0 j k l (by lia) (by lia) (by lia) (by lia)).2 ⟨by lia,by lia,by lia,by lia⟩
    ·have l1:l≠n-1:=fun e=>by rw[e]at z3;lia
     exact (M.un j k l (n-1) (by lia) (by lia) (by lia) (by lia)).1 ⟨by lia,by lia,by lia,by lia⟩
 ·obtain⟨s,t,hs,ht,e1,e2⟩:=hc;have N0:=fun r hr=>M.N (n-1) r (by lia) hr
  rw[en]at N0
  match k,hk,r,hr,h with
  |0,_,0,_,h=>
   have h:Btw (Xf u v c) (Xf u v c) _:=h;unfold Btw at h;lia
  |0,_,r+1,hr,h=>
   have e0:nx (n+1) 0=0+1:=by unfold nx;rw[if_neg (by lia)]
   rw[e0]at h ⊢;have h:Btw (Xf u v c) (Xf u v (g r)) (Xf u v (g 0)):=h;show 0<turn c (g 0) (g r)
   have:=N0 r (by lia) (by unfold Btw at *;lia)
   have e:(s+t)*turn c (g 0) (g r)=s*turn (g (n-1)) (g 0) (g r):=by unfold turn;grind
   exact dF (show 0<s+t by lia) (by rw[e];exact Int.mul_pos hs this)
  |k+1,hk,r,hr,h=>
   by_cases kn:k=n-1
   ·subst kn;have e0:nx (n+1) (n-1+1)=0:=by unfold nx;rw[if_pos (by lia)]
    rw[e0]at h ⊢
    match r,hr,h with
    |0,_,h=>
     have h:Btw _ (Xf u v c) (Xf u v c):=h;unfold Btw at h;lia
    |r+1,hr,h=>
     have h:Btw (Xf u v (g (n-1))) (Xf u v (g r)) (Xf u v c):=h;show 0<turn (g (n-1)) c (g r)
     have:=N0 r (by lia) (by unfold Btw at *;lia)
     have e:(s+t)*turn (g (n-1)) c (g r)=t*turn (g (n-1)) (g 0) (g r):=by unfold turn;grind
     exact dF (show 0<s+t by lia) (by rw[e];exact Int.mul_pos ht this)
   ·have e0:nx (n+1) (k+1)=k+1+1:=by unfold nx;rw[if_neg (by lia)]
    rw[e0]at h ⊢
    match r,hr,h with
    |0,_,h=>exact H k (by lia) h
    |r+1,hr,h=>
     have:=M.N k r (by lia) (by lia)
     have e1:nx n k=k+1:=by unfold nx;rw[if_neg (by lia)]
     rw[e1]at this;exact this h
theorem bz.of_peak{u v:Int}{n:Nat}{g:Nat->Pt}(pk:Nat)(n3:3<=n)(inj:∀i j,i<n->j<n->Xf u v (g i)=Xf u v (g j)->i=j)(up:∀i j,i<j->j<=pk->j<n->Xf u v (g i)<Xf u v (g j))(dn:∀i j,pk<=i->i<j->j<n->Xf u v (g j)<Xf u v (g i))
  (N:∀k r,k<n->r<n->Btw (Xf u v (g k)) (Xf u v (g r)) (Xf u v (g (nx n k)))->0<turn (g k) (g (nx n k)) (g r)):bz u v n g:=by
 refine⟨n3,inj,fun i j k l hij hjk hkl hl=>⟨fun ⟨z1,z2,z3,z4⟩=>?_,fun ⟨z1,z2,z3,z4⟩=>?_⟩,N⟩
 ·by_cases c:k<=pk
  ·have:=up j k hjk c (by lia);lia
  ·have:=dn k l (by lia) hkl hl;lia
 ·by_cases c:j<=pk
  ·have:=up i j hij c (by lia);lia
  ·have:=dn j k (by lia) hjk (by lia);lia
section
variable{m a b n:Nat}{x l h:Nat->Int}{P:Nat->Pt}
noncomputable def Bdl(m:Nat)(l h:Nat->Int):Prop:=∀i,i<m->-100<=l i/\l i<=100/\h i<=100
theorem e7{p q r s p' q':Int}(h:p<p')(b1:-100<=q/\q<=100)(b2:-100<=s/\s<=100)(b3:-100<=q'/\q'<=100)(bt:Btw (Xf 1000 1 (p,q)) (Xf 1000 1 (r,s)) (Xf 1000 1 (p',q'))):p<=r/\r<=p'/\(r=p->q<s)/\(r=p'->s<q'):=by
 unfold Btw Xf at bt;dsimp only at bt;lia
theorem fV{p q r s q':Int}(h:q<q')(b1:-100<=q/\q<=100)(b2:-100<=s/\s<=100)(b3:-100<=q'/\q'<=100)(bt:Btw (Xf 1000 1 (p,q)) (Xf 1000 1 (r,s)) (Xf 1000 1 (p,q'))):r=p/\q<s/\s<q':=by
 unfold Btw Xf at bt;dsimp only at bt;lia
theorem Btw.symm{x y z:Int}(h:Btw x y z):Btw z y x:=h.elim .inr .inl
theorem tf{p q p' q':Int}(b1:-100<=q/\q<=100)(b2:-100<=q'/\q'<=100)(h:p<p'):Xf 1000 1 (p,q)<Xf 1000 1 (p',q'):=by
 unfold Xf;dsimp only;lia
theorem Ck{p q q':Int}(h:q<q'):Xf 1000 1 (p,q)<Xf 1000 1 (p,q'):=by
 unfold Xf;dsimp only;lia
theorem Dl{p q p' q':Int}(b1:-100<=q/\q<=100)(b2:-100<=q'/\q'<=100)(h:Xf 1000 1 (p,q)=Xf 1000 1 (p',q')):(p,q)=(p',q'):=by
 unfold Xf at h;dsimp only at h;exact YT (by dsimp only;lia) (by dsimp only;lia)
theorem nB{k r:Nat}(h1:k<=r)(h2:r<=k+1):r=k\/r=k+1:=by lia
theorem wF{k r:Nat}(h1:k<r+1)(h2:r<k+1):r=k:=by lia
theorem iB{k m:Nat}(h:k<m-1):k<m/\k+1<m:=by lia
theorem iw{k m:Nat}(m2:2<=m)(h:k<=m-2):k<m/\k+1<m:=by lia
theorem w9{p q p' q' s:Int}(h:p<p')(hs:q<s):0<turn (p,q) (p',q') (p,s):=by
 have:=Int.mul_pos (Int.sub_pos_of_lt h) (Int.sub_pos_of_lt hs)
 unfold turn;show 0<(p'-p)*(s-q)-(q'-q)*(p-p);rw[Int.sub_self,Int.mul_zero,Int.sub_zero];exact this
theorem yA{p q p' q' s:Int}(h:p<p')(hs:s<q'):0<turn (p',q') (p,q) (p',s):=by
 have:=Int.mul_pos (Int.sub_pos_of_lt h) (Int.sub_pos_of_lt hs)
 unfold turn;show 0<(p-p')*(s-q')-(q-q')*(p'-p');rw[Int.sub_self,Int.mul_zero,Int.sub_zero,<-Int.neg_sub p' p,<-Int.neg_sub q' s,Int.neg_mul_neg];exact this
theorem vtx(C:dD m a b x l h)(hn:n=2*m-a-b)(hP:∀i,i<n->P i=cm m b x l h i){r:Nat}(hr:r<n):(r<m/\P r=(x r,l r))\/(m<=r/\∃j,a<=j/\j+b<m/\r+j+b+1=2*m/\P r=(x j,h j)):=by
 rw[hP r hr];unfold cm;have m2:=C.m2;have a1:=C.a1;have b1:=C.b1;by_cases c:r<m
 ·rw[if_pos c];exact .inl ⟨c,rfl⟩
 ·rw[if_neg c];exact .inr ⟨by lia,2*m-1-b-r,by lia,by lia,by lia,rfl⟩
theorem fW(C:dD m a b x l h){i:Nat}(hi:i<m):l i<=up m a b l h i/\up m a b l h i<=h i:=by
 have:=C.lh i hi
 unfold up;split<;>lia
theorem de(C:dD m a b x l h){i j:Nat}(hi:i<m)(e:x i<=x j):i<=j:=
 Nat.le_of_not_lt fun c=>Int.not_lt.mpr e (C.xs j i c hi)
theorem fZ(C:dD m a b x l h){i j:Nat}(hi:i<m)(e:x i<x j):i<j:=
 Nat.lt_of_le_of_ne (de C hi (Int.le_of_lt e)) fun c=>by subst c;exact Int.lt_irrefl _ e
theorem Bl(B:Bdl m l h){i:Nat}(hi:i<m):-100<=l i/\l i<=100:=⟨(B i hi).1,(B i hi).2.1⟩
theorem Bh(C:dD m a b x l h)(B:Bdl m l h){i:Nat}(hi:i<m):-100<=h i/\h i<=100:=⟨Int.le_trans (B i hi).1 (Int.le_of_lt (C.lh i hi)),(B i hi).2.2⟩
theorem Bu(C:dD m a b x l h)(B:Bdl m l h){i:Nat}(hi:i<m):-100<=up m a b l h i/\up m a b l h i<=100:=
 ⟨Int.le_trans (B i hi).1 (fW C hi).1,Int.le_trans (fW C hi).2 (B i hi).2.2⟩
theorem C7(C:dD m a b x l h){j:Nat}(h1:a<=j)(h2:j+b<m):up m a b l h j=h j:=by
 unfold up;rw[if_neg (by lia)]
theorem bdc(C:dD m a b x l h)(B:Bdl m l h)(hn:n=2*m-a-b)(hP:∀i,i<n->P i=cm m b x l h i){r:Nat}(hr:r<n):∃j y,j<m/\(-100<=y/\y<=100)/\P r=(x j,y):=by
 rcases vtx C hn hP hr with ⟨c1,e1⟩|⟨c1,i',q1,q2,q3,e1⟩
 ·exact⟨r,_,c1,Bl B c1,e1⟩
 ·exact⟨i',_,Nat.lt_of_le_of_lt (Nat.le_add_right _ _) q2,Bh C B (Nat.lt_of_le_of_lt (Nat.le_add_right _ _) q2),e1⟩
theorem pQ(C:dD m a b x l h)(B:Bdl m l h)(hn:n=2*m-a-b)(hP:∀i,i<n->P i=cm m b x l h i):bz 1000 1 n P:=by
 have m2:=C.m2;have V:∀r,r<n->_:=fun r hr=>vtx C hn hP hr;refine .of_peak (if b=0 then m else m-1) (hn ▸ C.n3) (fun i j hi hj e=>?_) (fun i j hij hj hjn=>?_) (fun i j hi hij hj=>?_) (fun k r hk hr bt=>?_)
 ·refine uV C hn hP hi hj ?_;obtain⟨i',y,_,b1,e1⟩:=bdc C B hn hP hi;obtain⟨j',z,_,b2,e2⟩:=bdc C B hn hP hj;rw[e1,e2]at e ⊢;exact Dl b1 b2 e
 ·have jm:j<=m:=by clear V;split at hj<;>lia
  have im:=Nat.lt_of_lt_of_le hij jm;rcases V i (Nat.lt_trans hij hjn) with ⟨c1,e1⟩|⟨c1,_⟩
  ·rcases V j hjn with ⟨c2,e2⟩|⟨c2,j',w1,w2,w3,e2⟩
   ·rw[e1,e2];exact tf (Bl B c1) (Bl B c2) (C.xs i j hij c2)
   ·have jl:j'<m:=Nat.lt_of_le_of_lt (Nat.le_add_right _ _) w2;have ij:i<=j':=by
     have b0:b=0:=by clear V;split at hj<;>lia
     clear V;lia
    rw[e1,e2];rcases Nat.lt_or_eq_of_le ij with k|k
    ·exact tf (Bl B c1) (Bh C B jl) (C.xs i j' k jl)
    ·subst k;exact Ck (C.lh i c1)
  ·exact absurd im (Nat.not_lt.mpr c1)
 ·rcases V j hj with ⟨c2,e2⟩|⟨c2,j',w1,w2,w3,e2⟩
  ·clear V;split at hi<;>lia
  ·have jl:j'<m:=Nat.lt_of_le_of_lt (Nat.le_add_right _ _) w2;obtain⟨i',y,il,ji,b1,e1⟩:∃i' y,i'<m/\j'<i'/\(-100<=y/\y<=100)/\P i=(x i',y):=by
    rcases V i (Nat.lt_trans hij hj) with ⟨c1,e1⟩|⟨c1,i',q1,q2,q3,e1⟩
    ·exact⟨i,_,c1,by clear V;split at hi<;>lia,Bl B c1,e1⟩
    ·have il:=Nat.lt_of_le_of_lt (Nat.le_add_right _ _) q2;exact⟨i',_,il,by clear V;lia,Bh C B il,e1⟩
   rw[e1,e2];exact tf (Bh C B jl) b1 (C.xs j' i' ji il)
 ·rcases e9 C hn hP hk with ⟨c,e1,e2⟩|⟨c,c0,e1,e2⟩|⟨s,c,cs,e1,e2⟩|⟨c,c0,e1,e2⟩<;>rw[e1,e2]at bt ⊢ <;>
   rcases V r hr with ⟨c2,e3⟩|⟨c2,j,w1,w2,w3,e3⟩<;>rw[e3]at bt ⊢
  ·obtain⟨k0,k1⟩:=iB c;obtain⟨z1,z2,z3,z4⟩:=e7 (C.xs k (k+1) (Nat.lt_succ_self k) k1) (Bl B k0) (Bl B c2) (Bl B k1) bt;rcases nB (de C k0 z1) (de C c2 z2) with q|q<;>subst q
   ·exact absurd (z3 rfl) (Int.lt_irrefl _)
   ·exact absurd (z4 rfl) (Int.lt_irrefl _)
  ·obtain⟨k0,k1⟩:=iB c;have jl:j<m:=Nat.lt_of_le_of_lt (Nat.le_add_right _ _) w2;have x1:=C.xs k (k+1) (Nat.lt_succ_self k) k1;obtain⟨z1,z2,z3,z4⟩:=e7 x1 (Bl B k0) (Bh C B jl) (Bl B k1) bt;rcases nB (de C k0 z1) (de C jl z2) with q|q<;>subst q
   ·exact w9 x1 (z3 rfl)
   ·exact absurd (z4 rfl) (Int.not_lt.mpr (Int.le_of_lt (C.lh _ jl)))
  ·have ml:m-1<m:=Nat.sub_lt (Nat.lt_of_lt_of_le (by decide) m2) (by decide)
   obtain⟨z1,z2,z3⟩:=fV (C.lh _ ml) (Bl B ml) (Bl B c2) (Bh C B ml) bt;have q:=Nat.le_antisymm (de C c2 (Int.le_of_eq z1)) (de C ml (Int.le_of_eq z1.symm));subst q;exact absurd z2 (Int.lt_irrefl _)
  ·have ml:m-1<m:=Nat.sub_lt (Nat.lt_of_lt_of_le (by decide) m2) (by decide)
   have jl:j<m:=Nat.lt_of_le_of_lt (Nat.le_add_right _ _) w2;obtain⟨z1,z2,z3⟩:=fV (C.lh _ ml) (Bl B ml) (Bh C B jl) (Bh C B ml) bt;have q:=Nat.le_antisymm (de C jl (Int.le_of_eq z1)) (de C ml (Int.le_of_eq z1.symm));subst q;exact absurd z3 (Int.lt_irrefl _)
  ·obtain⟨k0,k1⟩:=iw m2 cs;have x1:=C.xs s (s+1) (Nat.lt_succ_self s) k1;obtain⟨z1,z2,z3,z4⟩:=e7 x1 (Bu C B k0) (Bl B c2) (Bu C B k1) bt.symm;rcases nB (de C k0 z1) (de C c2 z2) with q|q<;>subst q
   ·exact absurd (z3 rfl) (Int.not_lt.mpr (fW C k0).1)
   ·exact yA x1 (z4 rfl)
  ·obtain⟨k0,k1⟩:=iw m2 cs;have jl:j<m:=Nat.lt_of_le_of_lt (Nat.le_add_right _ _) w2;have x1:=C.xs s (s+1) (Nat.lt_succ_self s) k1;obtain⟨z1,z2,z3,z4⟩:=e7 x1 (Bu C B k0) (Bh C B jl) (Bu C B k1) bt.symm;rcases nB (de C k0 z1) (de C jl z2) with q|q<;>subst q
   ·exact absurd (z3 rfl) (Int.not_lt.mpr (Int.le_of_eq (C7 C w1 w2).symm))
   ·exact absurd (z4 rfl) (Int.not_lt.mpr (fW C k1).2)
  ·have ml:0<m:=Nat.lt_of_lt_of_le (by decide) m2
   obtain⟨z1,z2,z3⟩:=fV (C.lh _ ml) (Bl B ml) (Bl B c2) (Bh C B ml) bt.symm;have q:=Nat.le_antisymm (de C c2 (Int.le_of_eq z1)) (de C ml (Int.le_of_eq z1.symm));subst q;exact absurd z2 (Int.lt_irrefl _)
  ·have ml:0<m:=Nat.lt_of_lt_of_le (by decide) m2
   have jl:j<m:=Nat.lt_of_le_of_lt (Nat.le_add_right _ _) w2;obtain⟨z1,z2,z3⟩:=fV (C.lh _ ml) (Bl B ml) (Bh C B jl) (Bh C B ml) bt.symm;have q:=Nat.le_antisymm (de C jl (Int.le_of_eq z1)) (de C ml (Int.le_of_eq z1.symm));subst q;exact absurd z3 (Int.lt_irrefl _)
theorem AT{p q c:Pt}(hc:bu p q c)(h:p.1<q.1):p.1<c.1/\c.1<q.1:=by
 obtain⟨s,t,hs,ht,e1,e2⟩:=hc;exact ii hs ht e1 h
theorem AR{p q c:Pt}(hc:bu p q c)(h:p.2<q.2):p.2<c.2/\c.2<q.2:=by
 obtain⟨s,t,hs,ht,e1,e2⟩:=hc;exact ii hs ht e2 h
theorem AX{p q c:Pt}(hc:bu p q c)(h:p.1=q.1):c.1=p.1:=by
 obtain⟨s,t,hs,ht,e1,e2⟩:=hc;rw[<-h]at e1
 have:(s+t)*(c.1-p.1)=0:=by grind
 rcases Int.mul_eq_zero.mp this with z|z<;>lia
theorem qv{p q c:Pt}(hc:bu p q c)(hp:-100<=p.2/\p.2<=100)(hq:-100<=q.2/\q.2<=100):-100<=c.2/\c.2<=100:=by
 obtain⟨s,t,hs,ht,e1,e2⟩:=hc;exact r_ hs ht e2 hp hq
theorem zg{x0 x1 l0 l1 u0 u1:Int}{c:Pt}(hx:x0<x1)(h0:l0<=u0)(h1:l1<=u1)(hs:l0+l1<u0+u1)(hc:bu (x0,l0) (x1,l1) c):0<turn (x1,u1) (x0,u0) c:=by
 obtain⟨s,t,hs,ht,e1,e2⟩:=hc;have e:=qD e1 e2 (x1,u1) (x0,u0);have k1:turn (x1,u1) (x0,u0) (x0,l0)=(x1-x0)*(u0-l0):=by unfold turn;grind
 have k2:turn (x1,u1) (x0,u0) (x1,l1)=(x1-x0)*(u1-l1):=by unfold turn;grind
 rw[k1,k2]at e;refine dF (show 0<s+t by lia) ?_
 rw[e];have a1:=Int.mul_nonneg (show 0<=x1-x0 by lia) (show 0<=u0-l0 by lia)
 have a2:=Int.mul_nonneg (show 0<=x1-x0 by lia) (show 0<=u1-l1 by lia)
 have g1:=Int.mul_nonneg (Int.le_of_lt hs) a1;have g2:=Int.mul_nonneg (Int.le_of_lt ht) a2;by_cases c:l0<u0
 ·have:=Int.mul_pos hs (Int.mul_pos (show 0<x1-x0 by lia) (show 0<u0-l0 by lia));lia
 ·have:=Int.mul_pos ht (Int.mul_pos (show 0<x1-x0 by lia) (show 0<u1-l1 by lia));lia
theorem Af{x0 x1 l0 l1 u0 u1:Int}{c:Pt}(hx:x0<x1)(h0:l0<=u0)(h1:l1<=u1)(hs:l0+l1<u0+u1)(hc:bu (x1,u1) (x0,u0) c):0<turn (x0,l0) (x1,l1) c:=by
 obtain⟨s,t,hs,ht,e1,e2⟩:=hc;have e:=qD e1 e2 (x0,l0) (x1,l1);have k1:turn (x0,l0) (x1,l1) (x0,u0)=(x1-x0)*(u0-l0):=by unfold turn;grind
 have k2:turn (x0,l0) (x1,l1) (x1,u1)=(x1-x0)*(u1-l1):=by unfold turn;grind
 rw[k1,k2]at e;refine dF (show 0<s+t by lia) ?_
 rw[e];have a1:=Int.mul_nonneg (show 0<=x1-x0 by lia) (show 0<=u0-l0 by lia)
 have a2:=Int.mul_nonneg (show 0<=x1-x0 by lia) (show 0<=u1-l1 by lia)
 have g1:=Int.mul_nonneg (Int.le_of_lt ht) a1;have g2:=Int.mul_nonneg (Int.le_of_lt hs) a2;by_cases c:l0<u0
 ·have:=Int.mul_pos ht (Int.mul_pos (show 0<x1-x0 by lia) (show 0<u0-l0 by lia));lia
 ·have:=Int.mul_pos hs (Int.mul_pos (show 0<x1-x0 by lia) (show 0<u1-l1 by lia));lia
theorem yD(C:dD m a b x l h){s:Nat}(hs:s+1<m):l s+l (s+1)<up m a b l h s+up m a b l h (s+1):=by
 have u0:=fW C (show s<m by lia)
 have u1:=fW C hs;have n3:=C.n3;have a1:=C.a1;have b1:=C.b1;by_cases c:(s=0/\a=1)
 ·have:=iX C hs (.inl (by lia)) (by lia);lia
 ·have:=iX C (show s<m by lia) (by lia) (.inl (by lia));lia
theorem DE(C:dD m a b x l h)(B:Bdl m l h)(hn:n=2*m-a-b)(hP:∀i,i<n->P i=cm m b x l h i){k0:Nat}(h0:k0<n){c:Pt}(hc:bu (P k0) (P (nx n k0)) c){k:Nat}(hk:k<n)(ne:k≠k0)
  (bt:Btw (Xf 1000 1 (P k)) (Xf 1000 1 c) (Xf 1000 1 (P (nx n k)))):0<turn (P k) (P (nx n k)) c:=by
 have m2:=C.m2;have o0:0<m:=Nat.lt_of_lt_of_le (by decide) m2
 have o1:m-1<m:=Nat.sub_lt o0 (by decide)
 have om:x 0<x (m-1):=C.xs _ _ (by clear bt hc;lia) o1
 obtain⟨c1,c2⟩:=c;rcases e9 C hn hP h0 with ⟨d,f1,f2⟩|⟨d,d0,f1,f2⟩|⟨s0,d,ds,f1,f2⟩|⟨d,d0,f1,f2⟩<;>rw[f1,f2]at hc
 ·obtain⟨g0,g1⟩:=iB d;obtain⟨x0,x1⟩:x k0<c1/\c1<x (k0+1):=AT hc (C.xs k0 (k0+1) (Nat.lt_succ_self _) g1);have cb:-100<=c2/\c2<=100:=qv hc (Bl B g0) (Bl B g1);rcases e9 C hn hP hk with ⟨e,e1,e2⟩|⟨e,e0,e1,e2⟩|⟨s,e,es,e1,e2⟩|⟨e,e0,e1,e2⟩<;>rw[e1,e2]at bt ⊢
  ·obtain⟨i0,i1⟩:=iB e;obtain⟨z1,z2,_⟩:=e7 (C.xs k (k+1) (Nat.lt_succ_self _) i1) (Bl B i0) cb (Bl B i1) bt;exact absurd (wF (fZ C g0 (Int.lt_of_lt_of_le x0 z2)) (fZ C i0 (Int.lt_of_le_of_lt z1 x1))) ne
  ·obtain⟨z1,_⟩:=fV (C.lh _ o1) (Bl B o1) cb (Bh C B o1) bt;rw[z1]at x1;exact absurd (fZ C o1 x1) (Nat.not_lt.mpr (Nat.le_sub_one_of_lt g1))
  ·obtain⟨i0,i1⟩:=iw m2 es;have xx:=C.xs s (s+1) (Nat.lt_succ_self _) i1;obtain⟨z1,z2,_⟩:=e7 xx (Bu C B i0) cb (Bu C B i1) bt.symm;have q:=wF (fZ C g0 (Int.lt_of_lt_of_le x0 z2)) (fZ C i0 (Int.lt_of_le_of_lt z1 x1));subst q;exact zg xx (fW C i0).1 (fW C i1).1 (yD C i1) hc
  ·obtain⟨z1,_⟩:=fV (C.lh _ o0) (Bl B o0) cb (Bh C B o0) bt.symm;rw[z1]at x0;exact absurd (fZ C g0 x0) (Nat.not_lt_zero _)
 ·have cx:c1=x (m-1):=AX hc rfl;obtain⟨y0,y1⟩:l (m-1)<c2/\c2<h (m-1):=AR hc (C.lh _ o1);have cb:-100<=c2/\c2<=100:=qv hc (Bl B o1) (Bh C B o1);subst cx;rcases e9 C hn hP hk with ⟨e,e1,e2⟩|⟨e,e0,e1,e2⟩|⟨s,e,es,e1,e2⟩|⟨e,e0,e1,e2⟩<;>rw[e1,e2]at bt ⊢
  ·obtain⟨i0,i1⟩:=iB e;obtain⟨z1,z2,z3,z4⟩:=e7 (C.xs k (k+1) (Nat.lt_succ_self _) i1) (Bl B i0) cb (Bl B i1) bt;have q:=Nat.le_antisymm (de C o1 z2) (Nat.le_sub_one_of_lt i1);rw[<-q]at z4;exact absurd (z4 rfl) (Int.not_lt.mpr (Int.le_of_lt y0))
  ·exact absurd (e.trans d.symm) ne
  ·obtain⟨i0,i1⟩:=iw m2 es;have xx:=C.xs s (s+1) (Nat.lt_succ_self _) i1;obtain⟨z1,z2,z3,z4⟩:=e7 xx (Bu C B i0) cb (Bu C B i1) bt.symm;have q:=Nat.le_antisymm (de C o1 z2) (Nat.le_sub_one_of_lt i1);rw[q]at z4 ⊢;exact yA xx (z4 rfl)
  ·obtain⟨z1,_⟩:=fV (C.lh _ o0) (Bl B o0) cb (Bh C B o0) bt.symm;exact absurd om (Int.not_lt.mpr (Int.le_of_eq z1))
 ·obtain⟨g0,g1⟩:=iw m2 ds;have gg:=C.xs s0 (s0+1) (Nat.lt_succ_self _) g1;obtain⟨x0,x1⟩:x s0<c1/\c1<x (s0+1):=AT hc.swap gg;have cb:-100<=c2/\c2<=100:=qv hc (Bu C B g1) (Bu C B g0);rcases e9 C hn hP hk with ⟨e,e1,e2⟩|⟨e,e0,e1,e2⟩|⟨s,e,es,e1,e2⟩|⟨e,e0,e1,e2⟩<;>rw[e1,e2]at bt ⊢
  ·obtain⟨i0,i1⟩:=iB e;have xx:=C.xs k (k+1) (Nat.lt_succ_self _) i1;obtain⟨z1,z2,_⟩:=e7 xx (Bl B i0) cb (Bl B i1) bt;have q:=wF (fZ C g0 (Int.lt_of_lt_of_le x0 z2)) (fZ C i0 (Int.lt_of_le_of_lt z1 x1));subst q;exact Af xx (fW C i0).1 (fW C i1).1 (yD C i1) hc
  ·obtain⟨z1,_⟩:=fV (C.lh _ o1) (Bl B o1) cb (Bh C B o1) bt;rw[z1]at x1;exact absurd (fZ C o1 x1) (Nat.not_lt.mpr (Nat.le_sub_one_of_lt g1))
  ·obtain⟨i0,i1⟩:=iw m2 es;have xx:=C.xs s (s+1) (Nat.lt_succ_self _) i1;obtain⟨z1,z2,_⟩:=e7 xx (Bu C B i0) cb (Bu C B i1) bt.symm;have q:=wF (fZ C g0 (Int.lt_of_lt_of_le x0 z2)) (fZ C i0 (Int.lt_of_le_of_lt z1 x1));clear bt hc;lia
  ·obtain⟨z1,_⟩:=fV (C.lh _ o0) (Bl B o0) cb (Bh C B o0) bt.symm;rw[z1]at x0;exact absurd (fZ C g0 x0) (Nat.not_lt_zero _)
 ·have cx:c1=x 0:=AX hc rfl;obtain⟨y0,y1⟩:l 0<c2/\c2<h 0:=AR hc.swap (C.lh _ o0);have cb:-100<=c2/\c2<=100:=qv hc (Bh C B o0) (Bl B o0);subst cx;rcases e9 C hn hP hk with ⟨e,e1,e2⟩|⟨e,e0,e1,e2⟩|⟨s,e,es,e1,e2⟩|⟨e,e0,e1,e2⟩<;>rw[e1,e2]at bt ⊢
  ·obtain⟨i0,i1⟩:=iB e;have xx:=C.xs k (k+1) (Nat.lt_succ_self _) i1;obtain⟨z1,z2,z3,z4⟩:=e7 xx (Bl B i0) cb (Bl B i1) bt;have q:=Nat.le_zero.mp (de C i0 z1);subst q;exact w9 xx (z3 rfl)
  ·obtain⟨z1,_⟩:=fV (C.lh _ o1) (Bl B o1) cb (Bh C B o1) bt;exact absurd om (Int.not_lt.mpr (Int.le_of_eq z1.symm))
  ·obtain⟨i0,i1⟩:=iw m2 es;have xx:=C.xs s (s+1) (Nat.lt_succ_self _) i1;obtain⟨z1,z2,z3,z4⟩:=e7 xx (Bu C B i0) cb (Bu C B i1) bt.symm;have q:=Nat.le_zero.mp (de C i0 z1);subst q
   have:=z3 rfl
   rw[C7 C (Nat.le_of_eq d0) (by have:=C.b1;clear bt hc;lia)]at this
   exact absurd this (Int.not_lt.mpr (Int.le_of_lt y1))
  ·exact absurd (e.trans d.symm) ne
end
end FF
end
section
namespace FF
structure GF(cs:List Pt):Prop where
 fe:aF cs
theorem xL{m:Nat}{x l h:Nat->Int}{ah:Int}(m2:2<=m)(m6:m<=6)(xs:∀i j,i<j->j<m->x i<x j)(lh:∀i,i<m->l i<h i):
  GF (bC (loL m x l) (loL m x h) ah):=by
 obtain⟨a,b,ha,hb,n3,e⟩:=ku (x:=x) (l:=l) (h:=h) (ah:=ah) m2;rw[e];have C:dD m a b x l h:=⟨m2,m6,ha,hb,n3,xs,lh⟩;have hl:(loL m x l++(((loL m x h).drop a).take (m-a-b)).reverse).length=2*m-a-b:=by
  rw[Z5,ba,Ze,iE (by lia)];lia
 refine⟨⟨by rw[hl];exact n3,by rw[hl];lia,?_⟩⟩
 rw[hl];exact pI C rfl (fun i hi=>kG C hi)
theorem tV:((Z4 3).all fun i=>(Z4 3).all fun j=>ng (gi (5+(i:Int)) (6+(j:Int))))=true:=by decide +kernel
theorem yj(c:Int):GF (c6 c):=by
 have h:=tV;simp only[Yt,Zy]at h;have q:=h (c%3).toNat (by lia) (c/3%3).toNat (by lia)
 have e1:(((c%3).toNat:Nat):Int)=c%3:=by lia
 have e2:(((c/3%3).toNat:Nat):Int)=c/3%3:=by lia
 rw[e1,e2]at q;exact⟨mM q⟩
theorem GF.flat{cs:List Pt}(G:GF cs)(c:Int):GF (flat cs c):=by
 unfold FF.flat;have lo:=G.fe.lo;have hat:(c%cs.length).toNat<cs.length:=by
  have h1:=Int.emod_nonneg c (show (cs.length:Int)≠0 by lia)
  have h2:=Int.emod_lt_of_pos c (show (0:Int)<cs.length by lia)
  lia
 generalize (c%cs.length).toNat=t at hat;simp only
 split
 ·exact G
 ·rename_i g hg
  split
  ·exact G
  ·rename_i FM;have hm:=iM (Xm hg);have k0:=Int.emod_nonneg (c/12) (show g-1≠0 by lia)
   have k1:=Int.emod_lt_of_pos (c/12) (show 0<g-1 by lia)
   have st:=gP hm.1 hm.2.1 hm.2.2 (k:=1+c/12%(g-1)) (by lia) (by lia)
   have G2:GF (cs.take t++cs.drop t):=by rw[ZC];exact G
   have hl:(cs.take t++cs.drop t).length=cs.length:=by rw[ZC]
   have a0:at' (cs.drop t++cs.take t) 0=at' cs t:=by
    rw[bS,Zu,if_pos (by lia),cQ,Nat.add_zero]
   have a1:at' (cs.drop t++cs.take t) (cs.length-1)=at' cs (if t=0 then cs.length-1 else t-1):=by
    rw[bS,Zu];by_cases z:t=0
    ·subst z;rw[if_pos (by lia),cQ,Nat.zero_add,if_pos rfl]
    ·rw[if_neg (by lia),if_neg z,dr (by lia)]
     congr 1;lia
   exact⟨G2.fe.flat (by lia) (by rw[hl,a0,a1];exact st)⟩
end FF
end
section
namespace FF
theorem tq{D y z:Int}(hD:0<D):D*y<D*z↔y<z:=⟨fun h=>Int.lt_of_mul_lt_mul_left h (by lia),fun h=>Int.mul_lt_mul_of_pos_left h hD⟩
theorem bz.congr{u v:Int}{n:Nat}{g g':Nat->Pt}(h:∀i,i<n->g' i=g i)(M:bz u v n g):bz u v n g':=by
 have n3:=M.n3;refine⟨n3,fun i j hi hj e=>M.inj i j hi hj (by rw[<-h i hi,<-h j hj];exact e),fun i j k l hij hjk hkl hl=>?_,fun k r hk hr b=>?_⟩
 ·rw[h i (by lia),h j (by lia),h k (by lia),h l hl];exact M.un i j k l hij hjk hkl hl
 ·rw[h k hk,h r hr,h _ (aK hk)]at *;exact M.N k r hk hr b
noncomputable def fj(cs:List Pt):Prop:=∃u v,bz u v cs.length (at' cs)
theorem rX{A B:List Pt}{i:Nat}(hA:A.length<(A++B).length)(hi:i<(A++B).length):at' (B++A) i=at' (A++B) (bU (A++B).length A.length i):=by
 rw[Z5]at *
 unfold bU;rw[bS];by_cases c:i<B.length
 ·rw[if_pos c,if_pos (by lia),bS,if_neg (by lia)];congr 1;lia
 ·rw[if_neg c,if_neg (by lia),bS,if_pos (by lia)];congr 1;lia
theorem fj.rot{A B:List Pt}(M:fj (A++B)):fj (B++A):=by
 obtain⟨u,v,M⟩:=M;by_cases c:A.length<(A++B).length
 ·refine⟨u,v,?_⟩;rw[show (B++A).length=(A++B).length by rw[Z5,Z5];lia]
  exact (M.rot c).congr fun i hi=>rX c hi
 ·have:B=[]:=by
   rw[Z5]at c;exact Yo (by lia)
  subst this;rw[ZT]at M;exact⟨u,v,M⟩
theorem fj.turnBy{A:List Pt}(M:fj A)(t:Nat):fj (A.drop t++A.take t):=by
 rw[<-ZC t A]at M;exact M.rot
theorem f8(T:Tn)(a b c:Pt):turn (T.led a) (T.led b) (T.led c)=T.det*turn a b c:=by unfold turn Tn.led Tn.det;grind
theorem nS(T:Tn)(u v:Int)(p:Pt):Xf (u*T.d-v*T.c) (v*T.a-u*T.b) (T.led p)=T.det*Xf u v p+Xf (u*T.d-v*T.c) (v*T.a-u*T.b) (T.e,T.f):=by unfold Xf Tn.led Tn.det;grind
theorem yG(u v:Int)(p:Pt):Xf (-u) (-v) p=- Xf u v p:=by unfold Xf;grind
theorem bz.ord{u v u' v':Int}{n:Nat}{g g':Nat->Pt}(M:bz u v n g)(o:∀i j,i<n->j<n->(Xf u v (g i)<Xf u v (g j)↔Xf u' v' (g' i)<Xf u' v' (g' j)))(t:∀i j k,0<turn (g i) (g j) (g k)->0<turn (g' i) (g' j) (g' k)):bz u' v' n g':=by
 refine⟨M.n3,fun i j hi hj e=>M.inj i j hi hj ?_,fun i j k l hij hjk hkl hl=>?_,fun k r hk hr b=>?_⟩
 ·have h1:=o i j hi hj;have h2:=o j i hj hi;have a1:¬Xf u v (g i)<Xf u v (g j):=fun z=>by have:=h1.mp z;lia
  have a2:¬Xf u v (g j)<Xf u v (g i):=fun z=>by have:=h2.mp z;lia
  lia
 ·have:=M.un i j k l hij hjk hkl hl
  rw[o i j (by lia) (by lia),o k j (by lia) (by lia),o i l (by lia) hl,o k l (by lia) hl,o j i (by lia) (by lia),o j k (by lia) (by lia),o l i hl (by lia),o l k hl (by lia)]at this
  exact this
 ·refine t _ _ _ (M.N k r hk hr ?_);unfold Btw at *
  rw[o k r hk hr,o r _ hr (aK hk),o _ r (aK hk) hr,o r k hr hk];exact b
theorem bz.rev{u v:Int}{n:Nat}{g g':Nat->Pt}(M:bz u v n g)(u' v':Int)(o:∀i j,i<n->j<n->(Xf u v (g i)<Xf u v (g j)↔Xf u' v' (g' i)<Xf u' v' (g' j)))(t:∀i j k,0<turn (g i) (g j) (g k)->turn (g' i) (g' j) (g' k)<0):bz u' v' n (fun i=>g' (n-1-i)):=by
 have n3:=M.n3;refine⟨n3,fun i j hi hj e=>?_,fun i j k l hij hjk hkl hl=>?_,fun k r hk hr b=>?_⟩
 ·have h1:=o (n-1-i) (n-1-j) (by lia) (by lia)
  have h2:=o (n-1-j) (n-1-i) (by lia) (by lia)
  have a1:¬Xf u v (g (n-1-i))<Xf u v (g (n-1-j)):=fun z=>by have:=h1.mp z;lia
  have a2:¬Xf u v (g (n-1-j))<Xf u v (g (n-1-i)):=fun z=>by have:=h2.mp z;lia
  have:=M.inj (n-1-i) (n-1-j) (by lia) (by lia) (by lia)
  lia
 ·have:=M.un (n-1-l) (n-1-k) (n-1-j) (n-1-i) (by lia) (by lia) (by lia) (by lia)
  rw[o (n-1-l) (n-1-k) (by lia) (by lia),o (n-1-j) (n-1-k) (by lia) (by lia),o (n-1-l) (n-1-i) (by lia) (by lia),o (n-1-j) (n-1-i) (by lia) (by lia),o (n-1-k) (n-1-l) (by lia) (by lia),o (n-1-k) (n-1-j) (by lia) (by lia),o (n-1-i) (n-1-l) (by lia) (by lia),o (n-1-i) (n-1-j) (by lia) (by lia)]at this
  exact⟨fun ⟨z1,z2,z3,z4⟩=>this.2 ⟨z4,z2,z3,z1⟩,fun ⟨z1,z2,z3,z4⟩=>this.1 ⟨z4,z2,z3,z1⟩⟩
 ·have hk':=aK hk;have e:nx n (n-1-nx n k)=n-1-k:=by unfold nx;split<;>split<;>lia
  have:=M.N (n-1-nx n k) (n-1-r) (by lia) (by lia)
  rw[e]at this
  have:=t _ _ _ (this (by
   unfold Btw at *
   rw[o _ (n-1-r) (by lia) (by lia),o (n-1-r) _ (by lia) (by lia),o _ (n-1-r) (by lia) (by lia),o (n-1-r) _ (by lia) (by lia)]
   lia))
  rw[km]at this;lia
theorem fj.led{cs:List Pt}(M:fj cs){T:Tn}(h:0<T.det):fj (cs.map T.led):=by
 obtain⟨u,v,M⟩:=M;refine⟨u*T.d-v*T.c,v*T.a-u*T.b,?_⟩;rw[Z6];refine bz.congr (g:=fun i=>T.led (at' cs i)) (fun i hi=>eZ hi) (M.ord (fun i j hi hj=>?_) fun i j k p=>by rw[f8];exact Int.mul_pos h p)
 rw[nS,nS];generalize Xf u v (at' cs i)=p;generalize Xf u v (at' cs j)=q
 have:=(tq h (y:=p) (z:=q))
 rw[<-this];lia
theorem fj.ledR{cs:List Pt}(M:fj cs){T:Tn}(h:T.det<0):fj (cs.map T.led).reverse:=by
 obtain⟨u,v,M⟩:=M;refine⟨-(u*T.d-v*T.c),-(v*T.a-u*T.b),?_⟩;rw[Ze,Z6];refine bz.congr (g:=fun i=>T.led (at' cs (cs.length-1-i))) (fun i hi=>?_) (M.rev (g':=fun i=>T.led (at' cs i)) _ _ (fun i j hi hj=>?_) fun i j k p=>?_)
 ·rw[kr (by rw[Z6];exact hi),Z6,eZ (by lia)]
 ·rw[yG,yG,nS,nS];generalize Xf u v (at' cs i)=p;generalize Xf u v (at' cs j)=q
  have:=(tq (show 0 < -T.det by lia) (y:=p) (z:=q))
  rw[<-this,Int.neg_mul,Int.neg_mul];lia
 ·rw[f8];exact Int.mul_neg_of_neg_of_pos h p
theorem xP{m a b:Nat}{x l h:Nat->Int}{cs:List Pt}(C:dD m a b x l h)(B:Bdl m l h)(hn:cs.length=2*m-a-b)(hP:∀i,i<cs.length->at' cs i=cm m b x l h i)(F:aF cs)(nr:∀p∈cs,Nr p)(c:Int):fj (flat cs c):=by
 have M:=pQ C B hn hP;have M0:fj cs:=⟨_,_,M⟩;have nrF:=uv (c:=c) nr (by have:=F.lo;lia)
 have FF:=(GF.flat ⟨F⟩ c).fe
 revert nrF FF
 unfold FF.flat;have lo:=F.lo;have hat:(c%cs.length).toNat<cs.length:=by
  have h1:=Int.emod_nonneg c (show (cs.length:Int)≠0 by lia)
  have h2:=Int.emod_lt_of_pos c (show (0:Int)<cs.length by lia)
  lia
 generalize (c%cs.length).toNat=t at hat;simp only
 split
 ·intros;exact M0
 ·rename_i g hg
  split
  ·intros;exact M0
  ·rename_i FM;have hm:=iM (Xm hg);have k0:=Int.emod_nonneg (c/12) (show g-1≠0 by lia)
   have k1:=Int.emod_lt_of_pos (c/12) (show 0<g-1 by lia)
   have st:=gP hm.1 hm.2.1 hm.2.2 (k:=1+c/12%(g-1)) (by lia) (by lia)
   have a0:at' (cs.drop t++cs.take t) 0=at' cs t:=by
    rw[bS,Zu,if_pos (by lia),cQ,Nat.add_zero]
   have a1:at' (cs.drop t++cs.take t) (cs.length-1)=at' cs (if t=0 then cs.length-1 else t-1):=by
    rw[bS,Zu];by_cases z:t=0
    ·subst z;rw[if_pos (by lia),cQ,Nat.zero_add,if_pos rfl]
    ·rw[if_neg (by lia),if_neg z,dr (by lia)]
     congr 1;lia
   generalize ((at' cs (if t=0 then cs.length-1 else t-1)).1+((at' cs t).1-(at' cs (if t=0 then cs.length-1 else t-1)).1)/g*(1+c/12%(g-1)),(at' cs (if t=0 then cs.length-1 else t-1)).2+((at' cs t).2-(at' cs (if t=0 then cs.length-1 else t-1)).2)/g*(1+c/12%(g-1)))=d at *
   intro nrF FF;have lt:(cs.take t).length=t:=by rw[Zi];lia
   have ld:(cs.drop t).length=cs.length-t:=Zu;have MR:bz 1000 1 cs.length (at' (cs.drop t++cs.take t)):=by
    have hl:(cs.take t++cs.drop t).length=cs.length:=by rw[ZC]
    have:=(M.rot (s:=t) hat)
    refine this.congr fun i hi=>?_
    have:=rX (A:=cs.take t) (B:=cs.drop t) (i:=i) (by rw[hl];lia) (by rw[hl];exact hi)
    rw[ZC,lt]at this;exact this
   have ei:∀i,i<cs.length->at' (cs.drop t++cs.take t) i=at' cs (bU cs.length t i):=fun i hi=>by
    have hl:(cs.take t++cs.drop t).length=cs.length:=by rw[ZC]
    have:=rX (A:=cs.take t) (B:=cs.drop t) (i:=i) (by rw[hl];lia) (by rw[hl];exact hi)
    rw[ZC,lt]at this;exact this
   have mem:∀i,i<cs.length->at' (cs.drop t++cs.take t) i∈cs:=fun i hi=>by rw[ei i hi];exact b7 (fO hat hi)
   have I:=MR.ins (c:=d) (by rw[a0,a1];exact st) (fun i hi e=>?_) (fun k hk bt=>?_)
   ·have I2:fj ((d::cs.drop t)++cs.take t):=by
     refine⟨1000,1,?_⟩;have el:((d::cs.drop t)++cs.take t).length=cs.length+1:=by rw[Z5,Zg,lt,ld];lia
     rw[el];refine I.congr fun i hi=>?_
     match i,hi with
     |0,_=>rfl
     |i+1,_=>rfl
    have:=I2.rot
    rw[Y2];exact this
   ·
    have m1:=mem i hi;have n1:=nr _ m1;have n2:=nrF d (XT _ (ZB _ (Zj.mpr rfl)));have ep:d=at' (cs.drop t++cs.take t) i:=by
     unfold Nr at n1 n2;unfold Xf at e;exact YT (by lia) (by lia)
    have FR:aF (d::(cs.drop t++cs.take t)):=by
     have:=FF
     rw[Y2]at this;exact this.rot
    have:=FR.ok.inj 0 (i+1) (by rw[Zg];lia) (by rw[Zg,Z5,lt,ld];lia) ep
    lia
   ·rw[ei k (by lia),ei (k+1) hk]at bt ⊢
    have hkk:=fO hat (show k<cs.length by lia)
    have e2:bU cs.length t (k+1)=nx cs.length (bU cs.length t k):=by
     rw[<-gO hat (by lia)];congr 1;unfold nx;rw[if_neg (by lia)]
    rw[e2]at bt ⊢;have hk0:(if t=0 then cs.length-1 else t-1)<cs.length:=by split<;>lia
    have en:nx cs.length (if t=0 then cs.length-1 else t-1)=t:=by unfold nx;split<;>split<;>lia
    refine DE C B hn hP hk0 (c:=d) (by rw[en];exact st) hkk (fun z=>?_) bt
    unfold bU at z
    split at z<;>split at z<;>lia
end FF
end
section
namespace FF
noncomputable def dA(a b c p:Pt):Bool:=decide (0<=turn a b p)&&decide (0<=turn b c p)&&decide (0<=turn c a p)
noncomputable def gT(cs:List Pt)(a b c:Pt):Bool:=decide (0<turn a b c)&&!((cs.filter fun p=>!(p==a||p==b||p==c)).any (dA a b c))
noncomputable def fF(cs:List Pt)(k:Nat):Bool:=gT cs (at' cs (pvN cs.length (pvN cs.length k))) (at' cs (pvN cs.length k)) (at' cs k)
noncomputable def gE(cs:List Pt):Option Nat:=(Z4 cs.length).find? (fF cs)
inductive bM:List Pt->List (Pt×Pt×Pt)->Prop
 |done {a b c:Pt} (h:0<turn a b c):bM [a,b,c] [(a,b,c)]
 |cut {cs:List Pt} {k:Nat} {ts:List (Pt×Pt×Pt)} (n4:4<=cs.length) (f:gE cs=some k) (r:bM (cs.filter fun p=>p != at' cs (pvN cs.length k)) ts):
  bM cs ((at' cs (pvN cs.length (pvN cs.length k)),at' cs (pvN cs.length k),at' cs k)::ts)
theorem tD{cs:List Pt}{p:Pt}(h:p∈cs):∃t,t<cs.length/\at' cs t=p:=by
 obtain⟨t,ht,e⟩:=Xk.mp h;refine⟨t,ht,?_⟩;unfold at';rw[Z0,Z2 ht];exact e
noncomputable def fm(cs:List Pt):Prop:=∀i j,i<cs.length->j<cs.length->at' cs i=at' cs j->i=j
theorem nW{a b c p:Pt}:dA a b c p=true↔dj a b c p:=by unfold dA dj;simp[and_assoc]
theorem pj{cs:List Pt}(D:fm cs){k:Nat}(hk:k<cs.length):fF cs k=true↔kA cs.length (at' cs) (pvN cs.length (pvN cs.length k)):=by
 have hb:=bJ hk;have ha:=bJ hb;unfold fF gT kA;rw[jv hb,jv hk,ZA,decide_eq_true_eq,Yr,List.any_eq_false];constructor
 ·rintro⟨h1,h2⟩;refine⟨h1,fun t tn t0 t1 t2 z=>?_⟩;refine h2 (at' cs t) ?_ (nW.mpr z);rw[ZI];refine⟨b7 tn,?_⟩;simp only[Yr,WG,X8,ne_eq];exact⟨⟨fun e=>t0 (D _ _ tn ha e),fun e=>t1 (D _ _ tn hb e)⟩,fun e=>t2 (D _ _ tn hk e)⟩
 ·rintro⟨h1,h2⟩;refine⟨h1,fun p hp z=>?_⟩;rw[ZI]at hp;obtain⟨hm,hp⟩:=hp;obtain⟨t,tn,rfl⟩:=tD hm;simp only[Yr,WG,X8,ne_eq]at hp;exact h2 t tn (fun e=>hp.1.1 (by rw[e])) (fun e=>hp.1.2 (by rw[e])) (fun e=>hp.2 (by rw[e])) (nW.mp z)
theorem nH{cs:List Pt}(D:fm cs){b:Nat}(hb:b<cs.length):(cs.filter fun p=>p != at' cs b)=cs.take b++cs.drop (b+1):=by
 have e:cs=cs.take b++(at' cs b::cs.drop (b+1)):=by
  have h1:cs.drop b=at' cs b::cs.drop (b+1):=by
   rw[W4 hb];congr 1;unfold at';rw[Z0,Z2 hb];rfl
  rw[<-h1,ZC]
 have lt:(cs.take b).length=b:=by rw[Zi];lia
 have f1:(cs.take b).filter (fun p=>p != at' cs b)=cs.take b:=by
  rw[WP];intro p hp;obtain⟨t,tn,rfl⟩:=tD hp;rw[lt]at tn;rw[dr tn];simp only[bne_iff_ne,ne_eq];intro e2
  have:=D _ _ (by lia) hb e2;lia
 have f2:(cs.drop (b+1)).filter (fun p=>p != at' cs b)=cs.drop (b+1):=by
  rw[WP];intro p hp;obtain⟨t,tn,rfl⟩:=tD hp;rw[Zu]at tn;rw[cQ];simp only[bne_iff_ne,ne_eq];intro e2
  have:=D _ _ (by lia) hb e2;lia
 have f3:(cs.take b++(at' cs b::cs.drop (b+1))).filter (fun p=>p != at' cs b)=cs.take b++cs.drop (b+1):=by
  rw[YX,f1,List.filter_cons_of_neg (by simp),f2]
 rw[<-e]at f3;exact f3
theorem rQ{cs:List Pt}{b i:Nat}(hb:b<cs.length)(hi:i+1<cs.length):at' (cs.take b++cs.drop (b+1)) i=at' cs (skp b i):=by
 have lt:(cs.take b).length=b:=by rw[Zi];lia
 rw[bS,lt];unfold skp
 split
 ·rw[dr (by lia)]
 ·rw[cQ];congr 1;lia
theorem bz.dist{u v:Int}{cs:List Pt}(M:bz u v cs.length (at' cs)):fm cs:=fun i j hi hj e=>M.inj i j hi hj (by rw[e])
theorem len3{cs:List Pt}(h:cs.length=3):cs=[at' cs 0,at' cs 1,at' cs 2]:=by
 match cs,h with
 | [a,b,c],_=>rfl
theorem pi:∀(n:Nat) (cs:List Pt),cs.length=n->fj cs->∃ts,bM cs ts:=by
 intro n
 induction n using Nat.strongRecOn with
 |ind n ih=>
  intro cs hn hM;obtain⟨u,v,M⟩:=hM;have n3:=M.n3;have D:=M.dist;by_cases c:cs.length=3
  ·rw[c]at M
   have:=M.three
   rw[len3 c];exact⟨_,.done this⟩
  ·obtain⟨a,ha,E⟩:=M.ear;have hb:=aK ha;have hc:=aK hb;have el:fF cs (nx cs.length (nx cs.length a))=true:=by
    rw[pj D hc,kf hb,kf ha];exact E
   obtain⟨k,hk⟩:∃k,gE cs=some k:=by
    cases e:gE cs with
    |some k=>exact⟨k,rfl⟩
    |none=>
     exfalso
     have:=Ur.mp e _ (Zy.mpr hc)
     exact this el
   have k1:=VC hk;have k2:=Zy.mp (Yn hk);have E2:=(pj D k2).mp k1;have hb2:=bJ k2;have M2:=M.cut (by lia) (bJ hb2) E2
   rw[jv hb2]at M2;have hf:=nH D hb2;have hl:(cs.take (pvN cs.length k)++cs.drop (pvN cs.length k+1)).length=cs.length-1:=by
    rw[Z5,Zi,Zu];lia
   obtain⟨ts,ht⟩:=ih (cs.length-1) (by lia) (cs.take (pvN cs.length k)++cs.drop (pvN cs.length k+1)) hl ⟨u,v,by rw[hl];exact M2.congr fun i hi=>rQ hb2 (by lia)⟩
   exact⟨_,.cut (by lia) hk (by rw[hf];exact ht)⟩
noncomputable def tri(F:Pt->Pt->Int)(t:Pt×Pt×Pt):Int:=F t.1 t.2.1+F t.2.1 t.2.2+F t.2.2 t.1
noncomputable def bB(F:Pt->Pt->Int)(ts:List (Pt×Pt×Pt)):Int:=(ts.map (tri F)).foldr (·+·) 0
theorem B8(F:Pt->Pt->Int)(hF:∀p q,F p q=- F q p){cs:List Pt}(h4:2<=cs.length){k:Nat}(hk:k<cs.length):
  cyc F cs=cyc F (cs.take (pvN cs.length k)++cs.drop (pvN cs.length k+1))+tri F (at' cs (pvN cs.length (pvN cs.length k)),at' cs (pvN cs.length k),at' cs k):=by
 have hb:=bJ hk;generalize eb:pvN cs.length k=b at *
 have lt:(cs.take b).length=b:=by rw[Zi];lia
 have ld:(cs.drop (b+1)).length=cs.length-(b+1):=Zu;have e:cs=cs.take b++[at' cs b]++cs.drop (b+1):=by
  have h1:cs.drop b=at' cs b::cs.drop (b+1):=by
   rw[W4 hb];congr 1;unfold at';rw[Z0,Z2 hb];rfl
  rw[Y2,VS,<-h1,ZC]
 have ne:cs.take b++cs.drop (b+1)≠[]:=fun z=>by
  have:=Y_ Wv z
  rw[Z5,lt,ld,YL]at this;lia
 have c:=zJ F (A:=cs.take b) (B:=cs.drop (b+1)) (c:=at' cs b) ne;rw[<-e]at c;have l1:(cs.take b++cs.drop (b+1)).length=cs.length-1:=by rw[Z5,lt,ld];lia
 rw[l1]at c;have g1:at' (cs.drop (b+1)++cs.take b) (cs.length-1-1)=at' cs (pvN cs.length b):=by
  rw[bS,ld];unfold pvN;by_cases z:b=0
  ·rw[if_pos z,if_pos (by lia),cQ];congr 1;lia
  ·rw[if_neg z,if_neg (by lia),dr (by lia)];congr 1;lia
 have g2:at' (cs.drop (b+1)++cs.take b) 0=at' cs k:=by
  rw[bS,ld];unfold pvN at eb;by_cases z:k=0
  ·rw[if_pos z]at eb;rw[if_neg (by lia),dr (by lia)];congr 1;lia
  ·rw[if_neg z]at eb;rw[if_pos (by lia),cQ];congr 1;lia
 rw[g1,g2]at c;rw[c];unfold tri;dsimp only;rw[hF (at' cs k) (at' cs (pvN cs.length b))];lia
theorem bM.sum{F:Pt->Pt->Int}(hF:∀p q,F p q=- F q p){cs:List Pt}{ts:List (Pt×Pt×Pt)}(h:bM cs ts)(D:fm cs):cyc F cs=bB F ts:=by
 induction h with
 |done h=>
  rename_i a b c;show F a b+(F b c+F c a)=(F a b+F b c+F c a)+0;lia
 |cut n4 f r ih=>
  rename_i cs k ts;have k2:=Zy.mp (Yn f);have hb:=bJ k2;rw[nH D hb]at ih;have hl:(cs.take (pvN cs.length k)++cs.drop (pvN cs.length k+1)).length=cs.length-1:=by
   rw[Z5,Zi,Zu];lia
  have D2:fm (cs.take (pvN cs.length k)++cs.drop (pvN cs.length k+1)):=fun i j hi hj e=>by
   rw[hl]at hi hj;rw[rQ hb (by lia),rQ hb (by lia)]at e
   have:=D _ _ (iD (by lia)) (iD (by lia)) e
   rcases Nat.lt_trichotomy i j with c|c|c
   ·have:=gj (b:=pvN cs.length k) c;lia
   ·exact c
   ·have:=gj (b:=pvN cs.length k) c;lia
  rw[B8 F hF (by lia) k2,ih D2]
  show _=tri F _+bB F ts;lia
theorem bM.pos{cs:List Pt}{ts:List (Pt×Pt×Pt)}(h:bM cs ts):∀t∈ts,0<turn t.1 t.2.1 t.2.2:=by
 induction h with
 |done h=>intro t ht;rw[Zj]at ht;rw[ht];exact h
 |cut n4 f r ih=>
  intro t ht;rcases Zz.mp ht with rfl|q
  ·have k1:=VC f;unfold fF gT at k1;rw[ZA,decide_eq_true_eq]at k1;exact k1.1
  ·exact ih t q
theorem bM.mem{cs:List Pt}{ts:List (Pt×Pt×Pt)}(h:bM cs ts):∀t∈ts,t.1∈cs/\t.2.1∈cs/\t.2.2∈cs:=by
 induction h with
 |done h=>intro t ht;rw[Zj]at ht;rw[ht];simp
 |cut n4 f r ih=>
  intro t ht;have k2:=Zy.mp (Yn f);rcases Zz.mp ht with rfl|q
  ·exact⟨b7 (bJ (bJ k2)),b7 (bJ k2),b7 k2⟩
  ·obtain⟨q1,q2,q3⟩:=ih t q;exact⟨(ZI.mp q1).1,(ZI.mp q2).1,(ZI.mp q3).1⟩
theorem k8(t:Pt×Pt×Pt):tri cr t=turn t.1 t.2.1 t.2.2:=by unfold tri cr turn;grind
end FF
end
section
namespace FF
noncomputable def yN:List Pt->Bool
 | [a,b,c]=>decide (0<turn a b c)
 |_=>false
noncomputable def mZ:Nat->List Pt->Bool
 |0,cs=>yN cs
 |f+1,cs=>if cs.length<=3 then yN cs else match gE cs with
  |none=>false
  |some k=>mZ f (cs.filter fun p=>p != at' cs (pvN cs.length k))
theorem q9{cs:List Pt}(h:yN cs=true):∃ts,bM cs ts:=by
 match cs,h with
 | [a,b,c],h=>exact⟨_,.done (Zx h)⟩
theorem kl:∀(f:Nat) (cs:List Pt),mZ f cs=true->∃ts,bM cs ts
 |0,cs,h=>q9 h
 |f+1,cs,h=>by
  unfold mZ at h
  split at h
  ·exact q9 h
  ·rename_i c
   split at h
   ·cases h
   ·rename_i k e;obtain⟨ts,ht⟩:=kl f _ h;exact⟨_,.cut (by lia) e ht⟩
noncomputable def mv(t:Nat)(cs:List Pt):List Pt:=cs.drop t++cs.take t
noncomputable def spB(w h:Int)(t:Nat):Bool:=mZ 9 (mv t (gi w h))&&mZ 9 ((mv t (gi w h)).map swp).reverse
theorem BE:((Z4 3).all fun i=>(Z4 3).all fun j=>(Z4 12).all fun t=>spB (5+(i:Int)) (6+(j:Int)) t)=true:=by decide +kernel
theorem tM(c:Int){t:Nat}(ht:t<12):(∃ts,bM (mv t (c6 c)) ts)/\∃ts,bM ((mv t (c6 c)).map swp).reverse ts:=by
 have h1:0<=c%3/\c%3<3:=by lia
 have h2:0<=c/3%3/\c/3%3<3:=by lia
 obtain⟨i,hi⟩:∃i:Nat,c%3=(i:Int):=⟨(c%3).toNat,by lia⟩
 obtain⟨j,hj⟩:∃j:Nat,c/3%3=(j:Int):=⟨(c/3%3).toNat,by lia⟩
 have e:c6 c=gi (5+(i:Int)) (6+(j:Int)):=by unfold c6 gi;simp only[hi,hj]
 have k:=BE;rw[Yt]at k;have k:=k i (Zy.mpr (by lia))
 rw[Yt]at k;have k:=k j (Zy.mpr (by lia))
 rw[Yt]at k;have k:=k t (Zy.mpr ht);unfold spB at k;rw[ZA,<-e]at k;exact⟨kl _ _ k.1,kl _ _ k.2⟩
theorem lb{d x:Int}(h:0<d):(0<d*x↔0<x)/\(0<=d*x↔0<=x):=by
 refine⟨⟨fun k=>dF h k,fun k=>Int.mul_pos h k⟩,⟨fun k=>dQ h k,fun k=>Int.mul_nonneg (Int.le_of_lt h) k⟩⟩
theorem wu{T:Tn}(h:0<T.det)(a b c p:Pt):dA (T.led a) (T.led b) (T.led c) (T.led p)=dA a b c p:=by
 unfold dA;rw[f8,f8,f8,W0.mpr (lb h).2,W0.mpr (lb h).2,W0.mpr (lb h).2]
theorem lj{T:Tn}(h:T.det≠0)(a b:Pt):(T.led a==T.led b)=(a==b):=by
 rw[ZS,beq_iff_eq,beq_iff_eq];exact⟨fun e=>oU h e,fun e=>by rw[e]⟩
theorem wm{T:Tn}(h:0<T.det)(cs:List Pt)(a b c:Pt):gT (cs.map T.led) (T.led a) (T.led b) (T.led c)=gT cs a b c:=by
 unfold gT;rw[f8,W0.mpr (lb h).1,WK,UA];congr 2;have e:((fun p=>!(p==T.led a||p==T.led b||p==T.led c)) ∘ T.led)=fun p=>!(p==a||p==b||p==c):=by
  funext p
  show (!(T.led p==T.led a||T.led p==T.led b||T.led p==T.led c))=_;rw[lj (by lia),lj (by lia),lj (by lia)]
 have e2:(dA (T.led a) (T.led b) (T.led c) ∘ T.led)=dA a b c:=by funext p;exact wu h a b c p
 rw[e,e2]
theorem wo{T:Tn}(h:0<T.det){cs:List Pt}{k:Nat}(hk:k<cs.length):fF (cs.map T.led) k=fF cs k:=by
 unfold fF;rw[Z6,eZ (bJ (bJ hk)),eZ (bJ hk),eZ hk,wm h]
theorem m_{p q:Nat->Bool}:∀{l:List Nat},(∀k∈l,p k=q k)->l.find? p=l.find? q
 | [],_=>rfl
 |a::l,h=>by
  rw[X6,X6,h a Za,m_ fun k hk=>h k (Zo _ hk)]
theorem bM.led{T:Tn}(h:0<T.det){cs:List Pt}{ts:List (Pt×Pt×Pt)}(c:bM cs ts):∃ts',bM (cs.map T.led) ts':=by
 induction c with
 |done p=>exact⟨_,.done (by rw[f8];exact Int.mul_pos h p)⟩
 |cut n4 f r ih=>
  rename_i cs k ts;obtain⟨ts',ht⟩:=ih;have k2:=Zy.mp (Yn f);have f2:gE (cs.map T.led)=some k:=by
   rw[<-f];unfold gE;rw[Z6];exact m_ fun k hk=>wo h (Zy.mp hk)
  refine⟨_,.cut (ts:=ts') (by rw[Z6];exact n4) f2 ?_⟩
  ·rw[Z6,eZ (bJ k2),WK];have e:((fun p=>p != T.led (at' cs (pvN cs.length k))) ∘ T.led)=fun p=>p != at' cs (pvN cs.length k):=by
    funext p
    show (T.led p != T.led _)=_;unfold bne;rw[lj (by lia)]
   rw[e];exact ht
theorem tj:∀{ts:List (Pt×Pt×Pt)},(∀t∈ts,0<turn t.1 t.2.1 t.2.2)->ts≠[]->0<bB cr ts
 | [t],h,_=>by
  have:=h t Za
  show 0<tri cr t+0;rw[k8];lia
 |t::s::r,h,_=>by
  have:=h t Za
  have ih:=tj (ts:=s::r) (fun x hx=>h x (Zo _ hx)) (by simp)
  show 0<tri cr t+bB cr (s::r);rw[k8];lia
theorem bM.area{cs:List Pt}{ts:List (Pt×Pt×Pt)}(h:bM cs ts)(D:fm cs):0<area cs:=by
 rw[<-yH,h.sum (fun p q=>by unfold cr;lia) D]
 refine tj h.pos ?_;cases h with
 |done=>simp
 |cut=>simp
noncomputable def oh(T S:Tn):Tn:=⟨T.a*S.a+T.b*S.c,T.a*S.b+T.b*S.d,T.c*S.a+T.d*S.c,T.c*S.b+T.d*S.d,T.a*S.e+T.b*S.f+T.e,T.c*S.e+T.d*S.f+T.f⟩
theorem zp(T S:Tn)(p:Pt):(oh T S).led p=T.led (S.led p):=by
 unfold oh Tn.led;exact YT (by dsimp only;grind) (by dsimp only;grind)
theorem mD(T S:Tn):(oh T S).det=T.det*S.det:=by unfold oh Tn.det;dsimp only;grind
theorem l8(T S:Tn)(cs:List Pt):cs.map (oh T S).led=(cs.map S.led).map T.led:=by
 rw[YK];congr 1;funext p;exact zp T S p
noncomputable def oH(R:List Pt):Prop:=fm R/\(fj R\/∃c t,t<12/\R=mv t (c6 c))
theorem lm:(swp:Pt->Pt)=lg.led:=by
 funext p
 show ((p.2,p.1):Pt)=(0*p.1+1*p.2+0,1*p.1+0*p.2+0);exact YT (by show p.2=0*p.1+1*p.2+0;lia) (by show p.1=1*p.1+0*p.2+0;lia)
theorem oH.clip{R:List Pt}(B:oH R){S:Tn}:(0<S.det->∃ts,bM (R.map S.led) ts)/\(S.det<0->∃ts,bM (R.map S.led).reverse ts):=by
 obtain⟨D,M|⟨c,t,ht,rfl⟩⟩:=B
 ·exact⟨fun h=>pi _ _ rfl (M.led h),fun h=>pi _ _ rfl (M.ledR h)⟩
 ·obtain⟨⟨t1,c1⟩,⟨t2,c2⟩⟩:=tM c ht;refine⟨fun h=>c1.led h,fun h=>?_⟩;have e:(mv t (c6 c)).map S.led=((mv t (c6 c)).map swp).map (oh S lg).led:=by
   rw[l8,lm,YK,YK];congr 1
   funext p
   show S.led p=S.led (lg.led (lg.led p));rw[<-lm,Bc]
  rw[e,<-XZ];refine c2.led ?_;rw[mD];show 0<S.det*(0*0-1*1);lia
theorem qI{cs:List Pt}(D:fm cs){T:Tn}(h:T.det≠0):fm (cs.map T.led):=fun i j hi hj e=>by
 rw[Z6]at hi hj;rw[eZ hi,eZ hj]at e;exact D i j hi hj (oU h e)
theorem rC{cs:List Pt}(D:fm cs):fm cs.reverse:=fun i j hi hj e=>by
 rw[Ze]at hi hj;rw[kr hi,kr hj]at e
 have:=D _ _ (by lia) (by lia) e
 lia
noncomputable def iW(cs:List Pt):Prop:=(0<area cs->∃ts,bM cs ts)/\(area cs<0->∃ts,bM cs.reverse ts)
theorem iW.rev{cs:List Pt}(h:iW cs):iW cs.reverse:=by
 refine⟨fun k=>?_,fun k=>?_⟩
 ·rw[iF]at k;exact h.2 (by lia)
 ·rw[iF]at k;rw[List.reverse_reverse];exact h.1 (by lia)
theorem oH.clipO{R:List Pt}(B:oH R){S:Tn}(hd:S.det≠0):iW (R.map S.led):=by
 have D:=B.1;rcases Int.lt_or_gt_of_ne hd with h|h
 ·obtain⟨ts,c⟩:=B.clip.2 h
  have:=c.area (rC (qI D hd))
  rw[iF]at this;exact⟨fun k=>by lia,fun _=>⟨ts,c⟩⟩
 ·obtain⟨ts,c⟩:=B.clip.1 h
  have:=c.area (qI D hd)
  exact⟨fun _=>⟨ts,c⟩,fun k=>by lia⟩
noncomputable def idT:Tn:=⟨1,0,0,1,0,0⟩
theorem CW:idT.led=id:=by
 funext p
 show ((1*p.1+0*p.2+0,0*p.1+1*p.2+0):Pt)=p;exact YT (by show 1*p.1+0*p.2+0=p.1;lia) (by show 0*p.1+1*p.2+0=p.2;lia)
theorem sR(ns:List Int)(f:Nat):∃R,oH R/\(du ns f=R\/du ns f=R.reverse\/du ns f=R.map swp\/du ns f=R.reverse.map swp):=by
 have hm:2<=b_ (cell ns f)/\b_ (cell ns f)<=6:=by unfold b_;lia
 have g0:GF (bC (bR ns f) (bD ns f) (cell ns f/5%4)):=by
  refine xL hm.1 hm.2 (fun i j h _=>nM _ h) (fun i _=>?_)
  have:=dE (cell ns (f+2)) i (show (0:Int)<5 by decide)
  unfold bL;lia
 have bd:∀k,-100<=dk (cell ns (f+1)) k/\dk (cell ns (f+1)) k<=100/\-100<=bL (cell ns (f+1)) (cell ns (f+2)) k/\bL (cell ns (f+1)) (cell ns (f+2)) k<=100/\dk (cell ns (f+1)) k<bL (cell ns (f+1)) (cell ns (f+2)) k:=fun k=>by
  have d1:=dE (cell ns (f+1)) k (show (0:Int)<9 by decide)
  have d2:=dE (cell ns (f+2)) k (show (0:Int)<5 by decide)
  unfold bL dk;lia
 have nr:∀p∈bC (bR ns f) (bD ns f) (cell ns f/5%4),Nr p:=by
  refine pL (ny hm.2 (fun k _=>kC _ k) fun k=>?_) (ny hm.2 (fun k _=>kC _ k) fun k=>?_)
  ·have:=bd k;lia
  ·have:=bd k;lia
 obtain⟨a,b,a1,b1,ab,ej⟩:=ku (m:=b_ (cell ns f)) (x:=xAt (cell ns (f+3))) (l:=dk (cell ns (f+1))) (h:=bL (cell ns (f+1)) (cell ns (f+2))) (ah:=cell ns f/5%4) hm.1;have C:dD (b_ (cell ns f)) a b (xAt (cell ns (f+3))) (dk (cell ns (f+1))) (bL (cell ns (f+1)) (cell ns (f+2))):=
  ⟨hm.1,hm.2,a1,b1,ab,fun i j h _=>nM _ h,fun i _=>(bd i).2.2.2.2⟩
 have B:Bdl (b_ (cell ns f)) (dk (cell ns (f+1))) (bL (cell ns (f+1)) (cell ns (f+2))):=fun i _=>⟨(bd i).1,(bd i).2.1,(bd i).2.2.2.1⟩;have el:(bC (bR ns f) (bD ns f) (cell ns f/5%4)).length=2*b_ (cell ns f)-a-b:=by
  unfold bR bD;rw[ej,Z5,ba,Ze,iE (by lia)];lia
 have eP:∀i,i<(bC (bR ns f) (bD ns f) (cell ns f/5%4)).length->at' (bC (bR ns f) (bD ns f) (cell ns f/5%4)) i=cm (b_ (cell ns f)) b (xAt (cell ns (f+3))) (dk (cell ns (f+1))) (bL (cell ns (f+1)) (cell ns (f+2))) i:=fun i hi=>by
  rw[el]at hi;unfold bR bD;rw[ej];exact kG C hi
 have M0:fj (bC (bR ns f) (bD ns f) (cell ns f/5%4)):=⟨_,_,pQ C B el eP⟩;have MF:=fun c=>xP C B el eP g0.fe nr c;unfold du;simp only;generalize bC (bR ns f) (bD ns f) (cell ns f/5%4)=J at *
 generalize cell ns f/20=c at *
 have dT:∀{A:List Pt} (t:Nat),aF A->fm (A.drop t++A.take t):=fun t F i j hi hj e=>by
  have F2:aF (_++_):=(by rw[ZC t];exact F:aF (TX t _++List.drop t _))
  exact F2.rot.ok.inj i j hi hj e
 have bT:oH (fK (dN (dg J c (cell ns (f+1))) c (cell ns (f+2))) c):=by
  unfold fK;by_cases s:c/48%5=1
  ·have e1:dg J c (cell ns (f+1))=c6 (cell ns (f+1)):=by unfold dg;rw[if_pos s]
   have e2:dN (c6 (cell ns (f+1))) c (cell ns (f+2))=c6 (cell ns (f+1)):=by
    unfold dN
    split
    ·unfold flat;simp only;split
     ·rfl
     ·exact if_pos (show 12>11 by decide)
    ·rfl
   rw[e1,e2];have l12:(c6 (cell ns (f+1))).length=12:=rfl;refine⟨dT _ (yj _).fe,.inr ⟨_,(c%(c6 (cell ns (f+1))).length).toNat,?_,rfl⟩⟩;rw[l12];lia
  ·have e1:dg J c (cell ns (f+1))=J:=by unfold dg;rw[if_neg s]
   rw[e1];unfold dN
   split
   ·exact⟨dT _ (g0.flat _).fe,.inl ((MF _).turnBy _)⟩
   ·exact⟨dT _ g0.fe,.inl (M0.turnBy _)⟩
 generalize fK (dN (dg J c (cell ns (f+1))) c (cell ns (f+2))) c=R at *
 refine⟨R,bT,?_⟩;unfold j8 fv
 split<;>split
 ·exact .inr (.inr (.inr rfl))
 ·exact .inr (.inr (.inl rfl))
 ·exact .inr (.inl rfl)
 ·exact .inl rfl
theorem sd(ns:List Int)(f:Nat){S:Tn}(hd:S.det≠0):iW ((du ns f).map S.led):=by
 obtain⟨R,B,e|e|e|e⟩:=sR ns f<;>rw[e]
 ·exact B.clipO hd
 ·rw[XZ];exact (B.clipO hd).rev
 ·rw[lm,<-l8];refine B.clipO ?_;rw[mD];show S.det*(0*0-1*1)≠0;lia
 ·rw[XZ,XZ,lm,<-l8];refine iW.rev (B.clipO ?_);rw[mD];show S.det*(0*0-1*1)≠0;lia
theorem pZ(ns:List Int)(f:Nat):iW (du ns f):=by
 have:=sd ns f (S:=idT) (by decide)
 rw[CW,List.map_id]at this;exact this
end FF
end
section
namespace FF
theorem BC:∀a b:Nat,∃u v:Int,u*a+v*b=(Nat.gcd a b:Nat):=by
 intro a b
 induction a,b using Nat.gcd.induction with
 |H0 n=>exact⟨0,1,by rw[Nat.gcd_zero_left];lia⟩
 |H1 m n hm ih=>
  obtain⟨u,v,e⟩:=ih;refine⟨v-u*((n/m:Nat):Int),u,?_⟩;rw[Nat.gcd_rec m n,<-e]
  have:((n%m:Nat):Int)=(n:Int)-(m:Int)*((n/m:Nat):Int):=by
   have:=Nat.mod_add_div n m
   have h:((n%m+m*(n/m):Nat):Int)=(n:Int):=by rw[this]
   push_cast at h ⊢
   lia
  rw[this];grind
theorem bez(a b:Int):∃u v:Int,u*a+v*b=(Int.gcd a b:Nat):=by
 obtain⟨u,v,e⟩:=BC a.natAbs b.natAbs;have ha:∃s:Int,s*a=a.natAbs:=by
  rcases Int.natAbs_eq a with h|h
  ·exact⟨1,by lia⟩
  ·exact⟨-1,by lia⟩
 have hb:∃s:Int,s*b=b.natAbs:=by
  rcases Int.natAbs_eq b with h|h
  ·exact⟨1,by lia⟩
  ·exact⟨-1,by lia⟩
 obtain⟨s,hs⟩:=ha;obtain⟨t,ht⟩:=hb;refine⟨u*s,v*t,?_⟩;rw[Int.mul_assoc,hs,Int.mul_assoc,ht];exact e
noncomputable def Way(D i o:Int):Prop:=(o=0/\1<=i/\i<D)\/(o=1/\0<=i/\i<D)
theorem we{p q r s D:Int}(hD:p*s-q*r=D)(h2:2<=D):∃i o,Way D i o/\(i*p+o*r)%D=0/\(i*q+o*s)%D=0:=by
 obtain⟨u,v,e⟩:=bez p q;by_cases g1:Int.gcd p q=1
 ·rw[g1]at e;have m0:=Int.emod_nonneg (-(u*r+v*s)) (show D≠0 by lia)
  have m1:=Int.emod_lt_of_pos (-(u*r+v*s)) (show 0<D by lia)
  refine⟨-(u*r+v*s)%D,1,.inr ⟨rfl,m0,m1⟩,?_,?_⟩
  ·have e1:-(u*r+v*s)%D*p+1*r=D*(-(-(u*r+v*s)/D)*p-v):=by
    have:=Int.mul_ediv_add_emod (-(u*r+v*s)) D
    have e2:-(u*r+v*s)%D=-(u*r+v*s)-D*(-(u*r+v*s)/D):=by lia
    rw[e2];generalize -(u*r+v*s)/D=z;grind
   rw[e1];exact Int.mul_emod_right _ _
  ·have e1:-(u*r+v*s)%D*q+1*s=D*(-(-(u*r+v*s)/D)*q+u):=by
    have:=Int.mul_ediv_add_emod (-(u*r+v*s)) D
    have e2:-(u*r+v*s)%D=-(u*r+v*s)-D*(-(u*r+v*s)/D):=by lia
    rw[e2];generalize -(u*r+v*s)/D=z;grind
   rw[e1];exact Int.mul_emod_right _ _
 ·have gp:(Int.gcd p q:Int) ∣ p:=Int.gcd_dvd_left ..;have gq:(Int.gcd p q:Int) ∣ q:=Int.gcd_dvd_right ..;generalize eg:(Int.gcd p q)=g at *
  obtain⟨p',rfl⟩:=gp;obtain⟨q',rfl⟩:=gq;have eD:D=g*(p'*s-q'*r):=by rw[<-hD];grind
  have g0:(g:Int)≠0:=fun z=>by rw[z,Int.zero_mul]at eD;lia
  have g2:2<=(g:Int):=by lia
  have dp:0<p'*s-q'*r:=dF (show (0:Int)<g by lia) (by rw[<-eD];lia)
  refine⟨p'*s-q'*r,0,.inl ⟨rfl,by lia,?_⟩,?_,?_⟩
  ·rw[eD]
   have:=Int.mul_le_mul_of_nonneg_right g2 (Int.le_of_lt dp)
   lia
  ·rw[Int.zero_mul,Int.add_zero,eD,show (p'*s-q'*r)*(g*p')=(g*(p'*s-q'*r))*p' by grind];exact Int.mul_emod_right _ _
  ·rw[Int.zero_mul,Int.add_zero,eD,show (p'*s-q'*r)*(g*q')=(g*(p'*s-q'*r))*q' by grind];exact Int.mul_emod_right _ _
noncomputable def gR(a b c:Pt)(i o:Int):Int:=i*(b.1-a.1)+o*(c.1-a.1)
noncomputable def gY(a b c:Pt)(i o:Int):Int:=i*(b.2-a.2)+o*(c.2-a.2)
noncomputable def wpt(a b c:Pt)(i o:Int):Pt:=(a.1+gR a b c i o/turn a b c,a.2+gY a b c i o/turn a b c)
theorem xU{a b c:Pt}{i o:Int}(h2:turn a b c≠0)(hx:gR a b c i o%turn a b c=0)(hy:gY a b c i o%turn a b c=0):
  turn a b (wpt a b c i o)=o/\turn b c (wpt a b c i o)=turn a b c-i-o/\turn c a (wpt a b c i o)=i:=by
 have ex:=Int.mul_ediv_add_emod (gR a b c i o) (turn a b c);have ey:=Int.mul_ediv_add_emod (gY a b c i o) (turn a b c);rw[hx]at ex;rw[hy]at ey;unfold wpt;generalize gR a b c i o/turn a b c=X at *
 generalize gY a b c i o/turn a b c=Y at *
 unfold gR at ex;unfold gY at ey;have k1:turn a b c*turn a b (a.1+X,a.2+Y)=turn a b c*o:=by
  have:turn a b c*turn a b (a.1+X,a.2+Y)=(b.1-a.1)*(turn a b c*Y)-(b.2-a.2)*(turn a b c*X):=by unfold turn;dsimp only;grind
  rw[this,show turn a b c*Y=i*(b.2-a.2)+o*(c.2-a.2) by lia,show turn a b c*X=i*(b.1-a.1)+o*(c.1-a.1) by lia]
  unfold turn;grind
 have k3:turn a b c*turn c a (a.1+X,a.2+Y)=turn a b c*i:=by
  have:turn a b c*turn c a (a.1+X,a.2+Y)=(a.1-c.1)*(turn a b c*Y)-(a.2-c.2)*(turn a b c*X):=by unfold turn;dsimp only;grind
  rw[this,show turn a b c*Y=i*(b.2-a.2)+o*(c.2-a.2) by lia,show turn a b c*X=i*(b.1-a.1)+o*(c.1-a.1) by lia]
  unfold turn;grind
 have r1:=dI h2 k1;have r3:=dI h2 k3;have r2:=jO a b c (a.1+X,a.2+Y);exact⟨r1,by lia,r3⟩
theorem wY{a b c:Pt}(h2:2<=turn a b c):∃i o,Way (turn a b c) i o/\gR a b c i o%turn a b c=0/\gY a b c i o%turn a b c=0:=by
 have:=we (p:=b.1-a.1) (q:=b.2-a.2) (r:=c.1-a.1) (s:=c.2-a.2) (D:=turn a b c) rfl h2
 exact this
theorem z_{a b c p:Pt}(h:0<turn a b c)(k:dj a b c p){B:Int}(ha:(-B<=a.1/\a.1<=B)/\-B<=a.2/\a.2<=B)(hb:(-B<=b.1/\b.1<=B)/\-B<=b.2/\b.2<=B)(hc:(-B<=c.1/\c.1<=B)/\-B<=c.2/\c.2<=B):(-B<=p.1/\p.1<=B)/\-B<=p.2/\p.2<=B:=by
 have e1:∀q:Pt,Xf 1 0 q=q.1:=fun q=>by unfold Xf;lia
 have e2:∀q:Pt,Xf 0 1 q=q.2:=fun q=>by unfold Xf;lia
 have r1:=f9 1 0 h k (m:=B) (by rw[e1];lia) (by rw[e1];lia) (by rw[e1];lia)
 have r2:=iT 1 0 h k (m:=-B) (by rw[e1];lia) (by rw[e1];lia) (by rw[e1];lia)
 have r3:=f9 0 1 h k (m:=B) (by rw[e2];lia) (by rw[e2];lia) (by rw[e2];lia)
 have r4:=iT 0 1 h k (m:=-B) (by rw[e2];lia) (by rw[e2];lia) (by rw[e2];lia)
 rw[e1]at r1 r2;rw[e2]at r3 r4;exact⟨⟨r2,r1⟩,r4,r3⟩
end FF
end
section
namespace FF
noncomputable abbrev Tri:=Pt×Pt×Pt
noncomputable def t2(t:Tri):Int:=turn t.1 t.2.1 t.2.2
noncomputable def t3(t:Tri):List Pt:=[t.1,t.2.1,t.2.2]
noncomputable def dq(t:Tri)(p:Pt):List Tri:=[(t.1,t.2.1,p),(t.2.1,t.2.2,p),(t.2.2,t.1,p)]
noncomputable def dU(t:Tri)(p:Pt):List Tri:=(dq t p).filter fun x=>decide (0<t2 x)
noncomputable def Wp(t:Tri)(p:Pt):Prop:=∃i o,Way (t2 t) i o/\p=wpt t.1 t.2.1 t.2.2 i o/\gR t.1 t.2.1 t.2.2 i o%t2 t=0/\gY t.1 t.2.1 t.2.2 i o%t2 t=0
noncomputable def mu(ts:List Tri):Int:=(ts.map fun t=>2*t2 t-1).foldr (·+·) 0
theorem xD(xs ys:List Tri):mu (xs++ys)=mu xs+mu ys:=by
 induction xs with
 |nil=>simp[mu]
 |cons x xs ih=>
  have e:mu (x::xs++ys)=2*t2 x-1+mu (xs++ys):=rfl;have e2:mu (x::xs)=2*t2 x-1+mu xs:=rfl;rw[e,e2,ih];lia
theorem pG{ts:List Tri}(h:∀t∈ts,0<t2 t):(ts.length:Int)<=mu ts:=by
 induction ts with
 |nil=>simp[mu]
 |cons x xs ih=>
  have e2:mu (x::xs)=2*t2 x-1+mu xs:=rfl;have h1:=h x (by simp)
  have h2:=ih fun t ht=>h t (by simp[ht])
  rw[e2,Zg];lia
theorem nh{t:Tri}{p:Pt}:∀x∈dU t p,0<t2 x:=fun x hx=>Zx (ZI.mp hx).2
theorem sV{t:Tri}{p:Pt}(h:2<=t2 t)(w:Wp t p):∃i o,Way (t2 t) i o/\turn t.1 t.2.1 p=o/\turn t.2.1 t.2.2 p=t2 t-i-o/\turn t.2.2 t.1 p=i:=by
 obtain⟨i,o,hw,rfl,hx,hy⟩:=w;exact⟨i,o,hw,xU (by unfold t2 at h;lia) hx hy⟩
theorem rq{t:Tri}{p:Pt}(h:2<=t2 t)(w:Wp t p):dj t.1 t.2.1 t.2.2 p:=by
 obtain⟨i,o,hw,e1,e2,e3⟩:=sV h w;unfold dj;rw[e1,e2,e3];unfold Way at hw;lia
theorem xT{t:Tri}{p:Pt}(h:2<=t2 t)(w:Wp t p):mu (dU t p)+2<=2*t2 t/\mu (dU t p)<2*t2 t-1:=by
 obtain⟨i,o,hw,e1,e2,e3⟩:=sV h w;have s1:t2 (t.1,t.2.1,p)=o:=e1;have s2:t2 (t.2.1,t.2.2,p)=t2 t-i-o:=e2;have s3:t2 (t.2.2,t.1,p)=i:=e3;have cnt:mu (dU t p)+2<=2*t2 t:=by
  unfold dU dq;simp only[YY,Wy,decide_eq_true_eq,s1,s2,s3];unfold Way at hw
  split<;>split<;>split<;>simp only[mu,Y5,Wn,List.foldr_cons,List.foldr_nil,s1,s2,s3]<;>lia
 exact⟨cnt,by lia⟩
theorem wA{t:Tri}{p:Pt}:(dU t p).length<=3:=by
 unfold dU dq;exact Nat.le_trans (XO _ _) (by simp)
theorem vg{t:Tri}{p:Pt}:∀x∈dU t p,∀q∈t3 x,q=p\/q∈t3 t:=fun x hx q hq=>by
 have:=(ZI.mp hx).1
 unfold dq at this;simp only[Zz,Zr,or_false]at this;unfold t3 at hq ⊢;rcases this with e|e|e<;>subst e<;>simp only[Zz,Zr,or_false]at hq ⊢ <;>rcases hq with z|z|z<;>simp[z]
structure oa(F:Pt->Pt->Int):Prop where
 anti:∀p q,F p q=- F q p
 add:∀a b p,turn a b p=0->(min a.1 b.1<=p.1/\p.1<=max a.1 b.1)->(min a.2 b.2<=p.2/\p.2<=max a.2 b.2)->F a b=F a p+F p b
theorem B6{a b c p:Pt}(h:0<turn a b c)(k:dj a b c p)(z:turn a b p=0):(min a.1 b.1<=p.1/\p.1<=max a.1 b.1)/\(min a.2 b.2<=p.2/\p.2<=max a.2 b.2):=by
 obtain⟨_,k2,k3⟩:=k;have s:=jO a b c p;rw[z]at s;have bx:=tm 1 0 a b c p;have by':=tm 0 1 a b c p
 rw[z]at bx by'
 unfold Xf at bx by'
 simp only[Int.one_mul,Int.zero_mul,Int.add_zero,Int.zero_add]at bx by'
 have key:∀{x y r:Int},turn b c p*(x-r)+turn c a p*(y-r)=0->min x y<=r/\r<=max x y:=by
  intro x y r e;constructor
  ·apply Int.not_lt.mp;intro lt;have h1:0<x-r:=by lia
   have h2:0<y-r:=by lia
   have m1:=Int.mul_nonneg k2 (Int.le_of_lt h1);have m2:=Int.mul_nonneg k3 (Int.le_of_lt h2)
   have:turn b c p=0/\turn c a p=0:=by
    rcases Int.lt_or_eq_of_le k2 with q|q
    ·have:=Int.mul_pos q h1;lia
    ·rcases Int.lt_or_eq_of_le k3 with q3|q3
     ·have:=Int.mul_pos q3 h2;lia
     ·exact⟨q.symm,q3.symm⟩
   lia
  ·apply Int.not_lt.mp;intro lt;have h1:0<r-x:=by lia
   have h2:0<r-y:=by lia
   have m1:=Int.mul_nonneg k2 (Int.le_of_lt h1);have m2:=Int.mul_nonneg k3 (Int.le_of_lt h2);have e':turn b c p*(r-x)+turn c a p*(r-y)=0:=by
    have:turn b c p*(r-x)+turn c a p*(r-y)=-(turn b c p*(x-r)+turn c a p*(y-r)):=by grind
    rw[this,e];rfl
   have:turn b c p=0/\turn c a p=0:=by
    rcases Int.lt_or_eq_of_le k2 with q|q
    ·have:=Int.mul_pos q h1;lia
    ·rcases Int.lt_or_eq_of_le k3 with q3|q3
     ·have:=Int.mul_pos q3 h2;lia
     ·exact⟨q.symm,q3.symm⟩
   lia
 exact⟨key (by lia),key (by lia)⟩
theorem lX{F:Pt->Pt->Int}(A:oa F){a b c p:Pt}(h:0<turn a b c)(k:dj a b c p)(z:turn a b p=0):tri F (a,b,p)=0:=by
 have o:=B6 h k z;have e:=A.add a b p z o.1 o.2;have e1:=A.anti b p;have e2:=A.anti p a;show F a b+F b p+F p a=0;lia
theorem kJ{a b c p:Pt}(k:dj a b c p):dj b c a p:=⟨k.2.1,k.2.2,k.1⟩
theorem sum_filter{F:Pt->Pt->Int}{q:Tri->Bool}:∀{l:List Tri},(∀x∈l,q x=false->tri F x=0)->bB F (l.filter q)=bB F l
 | [],_=>rfl
 |x::l,h=>by
  have ih:=sum_filter (F:=F) (q:=q) (l:=l) fun y hy=>h y (by simp[hy])
  have e:bB F (x::l)=tri F x+bB F l:=rfl;rw[YY];cases hq:q x with
  |true=>
   rw[if_pos rfl];have e2:bB F (x::l.filter q)=tri F x+bB F (l.filter q):=rfl;rw[e,e2,ih]
  |false=>
   rw[if_neg (by simp),e,ih,h x (by simp) hq];lia
theorem vi{F:Pt->Pt->Int}(A:oa F){t:Tri}{p:Pt}(h:2<=t2 t)(w:Wp t p):bB F (dU t p)=tri F t:=by
 have k:=rq h w;have hp:0<turn t.1 t.2.1 t.2.2:=by unfold t2 at h;lia
 unfold dU;rw[sum_filter]
 ·show tri F (t.1,t.2.1,p)+(tri F (t.2.1,t.2.2,p)+(tri F (t.2.2,t.1,p)+0))=tri F t;have e1:=A.anti t.1 p;have e2:=A.anti t.2.1 p;have e3:=A.anti t.2.2 p;unfold tri;dsimp only;lia
 ·intro x hx hq;have hq:¬0<t2 x:=of_decide_eq_false hq;unfold dq at hx;simp only[Zz,Zr,or_false]at hx;rcases hx with e|e|e<;>subst e
  ·exact lX A hp k (by have:=k.1;unfold t2 at hq;dsimp only at hq;lia)
  ·exact lX A (c:=t.1) (by rw[gN];exact hp) (kJ k) (by have:=k.2.1;unfold t2 at hq;dsimp only at hq;lia)
  ·exact lX A (c:=t.2.1) (by rw[gN,gN];exact hp) (kJ (kJ k)) (by have:=k.2.2;unfold t2 at hq;dsimp only at hq;lia)
end FF
end
section
namespace L2
open PySem PySem.Spec PyProof.Rows
section
variable{X:Cx}
theorem nZ(hc:X.calm=true):dy X (.builtin "all") (fun xs H Q=>∃(p:Addr) (bs:List Bool),xs=[.ref p]/\SqL X.K H p (bs.map V.bl)/\Q (.bl (bs.all id)) H):=by
 intro aa s σ H xs us Q I r h;obtain⟨p,bs,rfl,hq,q⟩:=h;obtain⟨u,rfl,ra⟩:=vals1 r;cases ra;obtain⟨C',rv,pl,hz⟩:=I.list hq;have hl:=rv.length;rw[Z6]at hl;refine call_all_walk (Xn pl.isList ?_);refine⟨s.heap.objs.size,_,_,_,_,_,fun i=>bs.getD i true,rfl,ky I pl hc,⟨⟨_,Zk _ rfl,rfl,rfl⟩,pl.isList.push _⟩,fun i v s' Q' E' e hq'=>?_,fun h' tk kp=>?_⟩
 ·have e:C'.toArray[i]?=some v:=e;rw[Yy]at e;have hi:i<bs.length:=by have:=(Zh.mp e).1;lia
  obtain⟨u,eu,ru⟩:=rv.get (i:=i) (x:=.bl bs[i]) (by rw[Zn,Z2 hi];rfl)
  rw[e]at eu;cases eu;cases ru;refine X1 ?_
  have:bs.getD i true=bs[i]:=by rw[Z0,Z2 hi];rfl
  rw[<-this];exact hq'
 ·have e:(Z4 C'.toArray.size).all (fun i=>bs.getD i true)=bs.all id:=by
   rw[Zs,<-hl,ZS,Yt,Yt];constructor
   ·intro h b hb;obtain⟨i,hi,rfl⟩:=Yv hb
    have:=h i (Zy.mpr hi)
    rwa [Z0,Z2 hi]at this
   ·intro h i hi;have hi:=Zy.mp hi;rw[Z0,Z2 hi];exact h _ (YC hi)
  rw[e];exact⟨.bl (bs.all id),H,I.kept fun b o eb=>kp b o (by simp only[Zz,Zr,or_false];exact Nat.ne_of_lt (Z_ eb)) (Z8 _ eb),rfl,q⟩
end
end L2
end
section
namespace FD
open PySem L2 FF
noncomputable abbrev vh:Stmt:=top 49
noncomputable abbrev mQ:Stmt:=top 53
noncomputable abbrev kd:Stmt:=top 52
noncomputable abbrev jB:Stmt:=top 51
noncomputable abbrev nN:Stmt:=top 50
noncomputable abbrev lQ:Stmt:=top 54
noncomputable abbrev qZ:Stmt:=top 55
noncomputable abbrev jE:Stmt:=top 56
noncomputable def k7:Sp:=fun vs H Q _=>∃l rf t,vs=[.ref l]/\PLs H l rf (t3 t)/\aJ (t3 t)/\Q (.int (t2 t)) H
noncomputable def uw:Sp:=fun vs H Q _=>∃l rf t pt p,vs=[.ref l,.ref pt]/\PLs H l rf (t3 t)/\aJ (t3 t)/\PtA H pt p/\Co p/\∀H',au H H'->Q (.bl (dA t.1 t.2.1 t.2.2 p)) H'
noncomputable def uI:Sp:=fun vs H Q _=>∃l rf t r rg cs,vs=[.ref l,.ref r]/\PLs H l rf (t3 t)/\aJ (t3 t)/\PLs H r rg cs/\aJ cs/\cs.length<=400/\∀H',au H H'->Q (.bl (gT cs t.1 t.2.1 t.2.2)) H'
theorem a30{t:Tri}{rf:Nat->Addr}:atI (aw (t3 t).length rf) 0=some (.ref (rf 0)):=rfl
theorem a31{t:Tri}{rf:Nat->Addr}:atI (aw (t3 t).length rf) 1=some (.ref (rf 1)):=rfl
theorem a32{t:Tri}{rf:Nat->Addr}:atI (aw (t3 t).length rf) 2=some (.ref (rf 2)):=rfl
theorem p30{H:Hp}{l:Addr}{rf:Nat->Addr}{t:Tri}(h:PLs H l rf (t3 t)):PtA H (rf 0) t.1:=h.2 0 (show 0<3 by decide)
theorem p31{H:Hp}{l:Addr}{rf:Nat->Addr}{t:Tri}(h:PLs H l rf (t3 t)):PtA H (rf 1) t.2.1:=h.2 1 (show 1<3 by decide)
theorem p32{H:Hp}{l:Addr}{rf:Nat->Addr}{t:Tri}(h:PLs H l rf (t3 t)):PtA H (rf 2) t.2.2:=h.2 2 (show 2<3 by decide)
theorem c30{t:Tri}(h:aJ (t3 t)):Co t.1:=h 0 (show 0<3 by decide)
theorem c31{t:Tri}(h:aJ (t3 t)):Co t.2.1:=h 1 (show 1<3 by decide)
theorem c32{t:Tri}(h:aJ (t3 t)):Co t.2.2:=h 2 (show 2<3 by decide)
theorem nE{K:Z3}{a:Addr}{n own:Nat}{rf:Nat->Addr}{ag:List Nat}{g:TG}{te:TE}{σ:L2.St}{H:Hp}{R:Addr->Hp->Prop}(b:Nat->Bool)(hn:n<=1000)(hl:H a=some (.lst (aw n rf)))
  (he:∀i,i<n->∀H',au H H'->∀Q':VK,(∀H'',au H' H''->Q' (.bl (b i)) H'')->g (.ref (rf i)) (compσ own ag σ) H' fun σ2 H2=>dh own ag σ σ2/\(if true=true then te σ2 H2 Q' else False))
  (gm:∀x σ H Q Q',(∀s h,Q s h->Q' s h)->g x σ H Q->g x σ H Q')
  (hd:∀D H',au H H'->H' D=none->R D (upd H' D (.lst (((Z4 n).map b).map V.bl)))):
  ∃(n:Nat) (W:Nat->List V->Hp->Prop),n<=sizeLine/\W 0 [] H/\(∀ys H,W n ys H->(Itl K a).stop n H/\∀D,H D=none->R D (upd H D (.lst ys)))/\
   ∀i ys H,i<n->W i ys H->(Itl K a).go i H/\∀x H',(Itl K a).yld i H x H'->g x (compσ own ag σ) H' fun σ2 H2=>dh own ag σ σ2/\(fun _ H Q=>Q true H:TT) σ2 H2 fun b H3=>if b=true then te σ2 H3 fun v H4=>W (i+1) (ys++[v]) H4 else W (i+1) ys H3:=by
 refine⟨n,fun i ys H'=>au H H'/\ys=((Z4 i).map b).map V.bl,aS hn,⟨au.refl _,rfl⟩,fun ys H' hW=>⟨⟨aw n rf,SqL.of (hW.1 _ _ hl),by rw[av];exact Nat.le_refl _⟩,fun D hD=>?_⟩,fun i ys H' hi hW=>⟨⟨aw n rf,_,SqL.of (hW.1 _ _ hl),aY hi⟩,fun x H3 hy=>?_⟩⟩
 ·obtain⟨sW,rfl⟩:=hW;exact hd D H' sW hD
 ·obtain⟨sW,rfl⟩:=hW;obtain⟨rfl,hy⟩:=hy;obtain⟨_,rfl⟩:=bN (hy _ (SqL.of (sW _ _ hl)));refine gm _ _ _ _ _ (fun σ2 H2 z=>⟨z.1,z.2⟩) (he i hi _ sW (fun v H4=>au H H4/\((Z4 i).map b).map V.bl++[v]=((Z4 (i+1)).map b).map V.bl) fun H'' EX=>⟨sW.trans EX,?_⟩);rw[Ye,ZU,ZU];rfl
theorem bb(cs:List Pt)(j:Nat):at' cs j=cs.getD j (0,0):=rfl
theorem lO(cs:List Pt):cs=(Z4 cs.length).map (at' cs):=by
 refine XY (by simp) fun i h1 h2=>?_
 rw[UK,Uj];unfold at';rw[Z0,Z2 h1];rfl
theorem jF{H H':Hp}{l D:Addr}{rf:Nat->Addr}{cs:List Pt}(h:PLs H l rf cs)(pb:Pt->Bool)(s:au H H')(hD:H' D=some (.lst (((Z4 cs.length).filter fun i=>pb (at' cs i)).map fun i=>V.ref (rf i)))):∃rg,PLs H' D rg (cs.filter pb):=by
 have e:cs.filter pb=((Z4 cs.length).filter fun i=>pb (at' cs i)).map (at' cs):=by
  have h1:=Y_ (UM pb) (lO cs);rw[WK]at h1;exact h1
 have hm:∀i∈(Z4 cs.length).filter (fun i=>pb (at' cs i)),i<cs.length:=fun i hi=>Zy.mp (ZI.mp hi).1;rw[e];generalize (Z4 cs.length).filter (fun i=>pb (at' cs i))=js at *
 refine⟨fun j=>rf (js.getD j 0),?_,fun j hj=>?_⟩
 ·rw[hD,Z6];congr 2;refine XY (by simp[aw]) fun i h1 h2=>?_
  have hi:i<js.length:=by simpa using h1
  simp only[aw,UK,Uj];rw[Z0,Z2 hi];rfl
 ·rw[Z6]at hj;have e2:at' (js.map (at' cs)) j=at' cs (js.getD j 0):=by
   rw[bb,Z0,Zn,Z0,Z2 hj];rfl
  rw[e2];exact s _ _ (h.2 _ (hm _ (by rw[Z0,Z2 hj];exact YC hj)))
section
variable{P:Zv}{w:Zl}{K:Z3}{mg:Str->Option Value}{base:ZF}{f:Addr}{fd:Zf}
theorem Dm:aD ["triangle"] ["triangle"] (aq vh):=.mk'
theorem BU(F:Fun K "doubled_area" "doubled_area" vh f fd)(cT:Cal P w K mg base 1 "turn" ["start","end","point"] gF):aI P w K mg base CX0 2 f fd ["triangle"] k7:=by
 refine F.ok Dm (by rintro _ _ _ _⟨_,_,_,rfl,_⟩;rfl) fun E3 A outer s H vs Q E hr h=>?_
 obtain⟨l,rf,t,rfl,hp,co,q⟩:=h;refine⟨_,ap (aC (ay cT hr (pa3 (ak aH (pv 0) ad) (ak aH (pv 0) ad) (ak aH (pv 0) ad)))),?_⟩
 exact⟨_,rfl,l,_,_,_,rfl,rfl,SqL.of hp.1,a30,_,rfl,l,_,_,_,rfl,rfl,SqL.of hp.1,a31,_,rfl,l,_,_,_,rfl,rfl,SqL.of hp.1,a32,_,_,_,_,_,_,rfl,p30 hp,p31 hp,p32 hp,c30 co,c31 co,c32 co,q⟩
theorem Bj:aD ["triangle","point"] ["triangle","point"] (aq mQ):=.mk'
theorem uU:(["start","end","point"]:List Str).Nodup:=by decide +kernel
theorem zZ(F:Fun K "holds" "holds" mQ f fd)(cS:Cal P w K mg base 1 "sides_of" ["corners"] gK)(cT:Cal P w K mg base 1 "turn" ["start","end","point"] gF)(Fu:mg "all" = none):aI P w K mg base CX0 2 f fd ["triangle","point"] uw:=by
 refine F.ok Bj (by rintro _ _ _ _⟨_,_,_,_,_,rfl,_⟩;rfl) fun E3 A outer s H vs Q E hr h=>?_
 obtain⟨l,rf,t,pt,p,rfl,hp,co,hpt,cp,q⟩:=h;refine⟨_,ap (aC (aN (nZ rfl) rfl Fu Sx (pa1 (bA (N':=["start","end","point"]) (own:=2) (ag:=[1]) rfl (aO.of (sc:=aq mQ) (N0:=["triangle","point"]) rfl rfl (by decide +kernel)) (bp (ay cS hr (pa1 (pv 0)))) (fun _ _ _ _ _ _=>(gJ (n:=2) rfl (bw (aM (i:=0) uU rfl (ZQ rfl)) (bw (aM (i:=1) uU rfl (ZQ rfl)) e8)))) (fun C cl fp aa s₂ H₂=>bQ) (fun _ _ _ _ _ _=>(fY CB (ay cT hr (pa3 (pv 0) (pv 1) (pv 2))) ad)))))),?_⟩
 refine⟨_,rfl,l,rf,t3 t,rfl,hp,(show 1<=3 by decide),(show 3<=400 by decide),fun r ts H2 s2 EK=>?_⟩
 have hp2:=hp.mono s2;have hpt2:PtA H2 pt p:=s2 _ _ hpt;refine⟨r,rfl,⟨_,SqL.of EK.1⟩,?_⟩;refine nE (fun i=>decide (0<=turn (at' (t3 t) i) (at' (t3 t) (nx 3 i)) p)) (show 3<=1000 by decide) EK.1 (fun i hi H' s' Q' hq=>?_) xk (fun D H' s' hD=>?_)
 ·refine⟨_,_,rfl,SqT.of (s' _ _ (EK.2 i hi)),rfl,_,_,rfl,_,_,rfl,rfl,iL (by decide) (by decide),c9 ?_⟩
  exact⟨_,rfl,_,rfl,_,rfl,_,_,_,_,_,_,rfl,s' _ _ (hp2.2 _ hi),s' _ _ (hp2.2 _ (aK hi)),s' _ _ hpt2,co _ hi,co _ (aK hi),cp,_,_,rfl,rfl,hq _ (au.refl _)⟩
 ·refine⟨D,_,rfl,SqL.of aj,?_⟩;have e:(((Z4 3).map fun i=>decide (0<=turn (at' (t3 t) i) (at' (t3 t) (nx 3 i)) p)).all id)=dA t.1 t.2.1 t.2.2 p:=by
   unfold dA;show (decide (0<=turn t.1 t.2.1 p)&&(decide (0<=turn t.2.1 t.2.2 p)&&(decide (0<=turn t.2.2 t.1 p)&&true)))=_;rw[Wz,Bool.and_assoc]
  rw[e];exact q _ (s2.trans (s'.trans (ao hD _)))
theorem uN:aD ["triangle","corners","others"] ["triangle","corners"] (aq kd):=.mk'
theorem jZ:(["corner","triangle"]:List Str).Nodup:=by decide +kernel
theorem zw(F:Fun K "is_loose" "is_loose" kd f fd)(cD:Cal P w K mg base 2 "doubled_area" ["triangle"] k7)(cH:Cal P w K mg base 2 "holds" ["triangle","point"] uw)(Fh:mg "any" = none):aI P w K mg base CX0 3 f fd ["triangle","corners"] uI:=by
 refine F.ok uN (by rintro _ _ _ _⟨_,_,_,_,_,_,rfl,_⟩;rfl) fun E3 A outer s H vs Q E hr h=>?_
 obtain⟨l,rf,t,r,rg,cs,rfl,hp,co,hr',coC,n4,q⟩:=h;have hu:=hr.un;have hu2:A.units+3+5<cLine:=by have:A.units+3+16*2+200<cLine:=hu;lia
 refine⟨_,am (db (i:=2) (N':=["corner","triangle"]) (own:=1) (ag:=[0]) rfl (aO.of (sc:=aq kd) (N0:=["triangle","corners","others"]) rfl rfl (by decide +kernel)) uN.nd rfl (ZQ rfl) (bp (pv 1)) (fun _ _ _ _ _ _=>(aM (i:=0) jZ rfl (ZQ rfl))) (fun C cl fp aa s₂ H₂=>fh (u_ (wk (K:=K) rfl hu2) (pv 0) (pv 1) rfl)) (fun _ _ _ _ _ _=>(pv 0)))
  (ap (aC (qP (fY gX (ay cD hr (pa1 (pv 0))) ad) (rG (qJ (aN (jk rfl) rfl Fh VR (pa1 (bA (N':=["corner","triangle"]) (own:=1) (ag:=[0]) rfl (aO.of (sc:=aq kd) (N0:=["triangle","corners","others"]) rfl rfl (by decide +kernel)) (bp (pv 2)) (fun _ _ _ _ _ _=>(aM (i:=0) jZ rfl (ZQ rfl))) (fun C cl fp aa s₂ H₂=>bQ) (fun _ _ _ _ _ _=>(ay cH hr (pa2 (pv 1) (pv 0)))))))))))),?_⟩
 refine⟨_,rfl,r,rfl,⟨_,SqL.of hr'.1⟩,?_⟩;refine fB (rf:=rg) (n:=cs.length) (fun i=>!(at' cs i==t.1||at' cs i==t.2.1||at' cs i==t.2.2)) (aS (by lia)) (SqL.of hr'.1) (fun i hi Qb hq=>?_) (fun D hD=>⟨[_,_,_],rfl,?_⟩)
 ·refine⟨_,rfl,_,rfl,rg i,l,at' cs i,rf,fun j=>at' (t3 t) j,3,rfl,rfl,hr'.2 i hi,SqL.of hp.1,(fun j hj=>hp.2 j hj),_,rfl,?_⟩;have e:(!(Z4 3).any fun j=>decide (at' (t3 t) j=at' cs i))=!(at' cs i==t.1||at' cs i==t.2.1||at' cs i==t.2.2):=by
   show (!(decide (t.1=at' cs i)||(decide (t.2.1=at' cs i)||(decide (t.2.2=at' cs i)||false))))=_;have k:∀x y:Pt,decide (x=y)=(y==x):=fun x y=>by
    rw[ZS,decide_eq_true_eq,beq_iff_eq];exact eq_comm
   rw[k,k,k,WB,Bool.or_assoc]
  rw[e];exact hq
 have s3:=ao hD (.lst (((Z4 cs.length).filter fun i=>!(at' cs i==t.1||at' cs i==t.2.1||at' cs i==t.2.2)).map fun i=>V.ref (rg i)));obtain⟨rg3,h3⟩:=jF hr' (fun p=>!(p==t.1||p==t.2.1||p==t.2.2)) s3 aj;generalize upd H D (.lst (((Z4 cs.length).filter fun i=>!(at' cs i==t.1||at' cs i==t.2.1||at' cs i==t.2.2)).map fun i=>V.ref (rg i)))=H3 at *
 have co3:aJ (cs.filter fun p=>!(p==t.1||p==t.2.1||p==t.2.2)):=fun j hj=>by
  obtain⟨k,hk,e⟩:=Yv (ZI.mp (b7 hj)).1
  have:=coC k hk
  rw[show at' cs k=at' (cs.filter fun p=>!(p==t.1||p==t.2.1||p==t.2.2)) j by rw[<-e,bb,Z0,Z2 hk];rfl]at this
  exact this
 have n3:(cs.filter fun p=>!(p==t.1||p==t.2.1||p==t.2.2)).length<=400:=Nat.le_trans (XO _ _) n4;have ql:gT cs t.1 t.2.1 t.2.2=(decide (0<t2 t)&&!((cs.filter fun p=>!(p==t.1||p==t.2.1||p==t.2.2)).any (dA t.1 t.2.1 t.2.2))):=rfl;rw[ql]at q;generalize (cs.filter fun p=>!(p==t.1||p==t.2.1||p==t.2.2))=os at *
 have hp3:=hp.mono s3;refine⟨_,rfl,l,rf,t,rfl,hp3,co,_,_,rfl,rfl,_,rfl,?_⟩;refine aU (fun c=>?_) (fun c=>?_)
 ·rw[c]at q;refine⟨_,rfl,D,rfl,⟨_,SqL.of h3.1⟩,?_⟩;refine nE (fun i=>dA t.1 t.2.1 t.2.2 (at' os i)) (by lia) h3.1 (fun i hi H' s' Q' hq=>?_) jC (fun D2 H' s' hD2=>?_)
  ·exact⟨dC (by decide),c9 ⟨_,rfl,_,rfl,l,rf,t,_,_,rfl,hp3.mono s',co,s' _ _ (h3.2 i hi),co3 i hi,hq⟩⟩
  ·refine⟨D2,_,rfl,SqL.of aj,_,rfl,?_⟩;have e:((Z4 os.length).map fun i=>dA t.1 t.2.1 t.2.2 (at' os i)).any id=os.any (dA t.1 t.2.1 t.2.2):=by
    have h1:=Y_ (fun l=>List.any l (dA t.1 t.2.1 t.2.2)) (lO os);rw[UA]at h1 ⊢;exact h1.symm
   rw[e];exact q _ (s3.trans (s'.trans (ao hD2 _)))
 ·have c':decide (0<t2 t)=false:=by simpa using c
  rw[c']at q;exact q _ s3
end
end FD
end
section
namespace FD
open PySem L2 FF
noncomputable def trK(cs:List Pt)(k:Nat):Tri:=(at' cs (pvN cs.length (pvN cs.length k)),at' cs (pvN cs.length k),at' cs k)
noncomputable def tE:Sp:=fun vs H Q _=>∃l rf cs k,vs=[.ref l]/\PLs H l rf cs/\aJ cs/\3<=cs.length/\cs.length<=400/\gE cs=some k/\∀a rg H',au H H'->H a=none->PLs H' a rg (t3 (trK cs k))->Q (.ref a) H'
theorem kR{n i:Nat}(h:i<n):pvN n i<n:=by unfold pvN;split<;>lia
theorem wK{x:V}{xs:List V}:atI (x::xs) 0=some x:=c8 (j:=0) rfl
noncomputable def rg3(x y z:Addr):Nat->Addr:=fun i=>if i=0 then x else if i=1 then y else z
theorem mk3{H:Hp}{a x y z:Addr}{p q r:Pt}(ha:H a=none)(hx:PtA H x p)(hy:PtA H y q)(hz:PtA H z r):PLs (upd H a (.lst [.ref x,.ref y,.ref z])) a (rg3 x y z) (t3 (p,q,r)):=by
 have s:=ao ha (.lst [.ref x,.ref y,.ref z]);refine⟨aj,fun i hi=>?_⟩;have hi:i<3:=hi;rcases i with _|_|_|i
 ·exact s _ _ hx
 ·exact s _ _ hy
 ·exact s _ _ hz
 ·lia
theorem eB{H H':Hp}(s:au H H'){a:Addr}(h:H' a=none):H a=none:=by
 cases z:H a with
 |none=>rfl
 |some o=>rw[s _ _ z]at h;cases h
theorem vm{K:Z3}{a:Addr}{n:Nat}{rf:Nat->Addr}{ag:List Nat}{tt:TT}{σ:L2.St}{H:Hp}{R:Addr->List V->Hp->Prop}(b:Nat->Bool)(hn:n<=1000)(hl:H a=some (.lst (aw n rf)))
  (ht:∀i,i<n->∀H',au H H'->∀Qb:Bool->Hp->Prop,(∀H'',au H' H''->Qb (b i) H'')->tt ((compσ 1 ag σ).set 0 (some (.ref (rf i)))) H' Qb)
  (hd:∀D H',au H H'->H' D=none->R D (((Z4 n).filter b).map fun i=>V.ref (rf i)) H'):
  ∃(n:Nat) (W:Nat->List V->Hp->Prop),n<=sizeLine/\W 0 [] H/\(∀ys H,W n ys H->(Itl K a).stop n H/\∀D,H D=none->R D ys H)/\
   ∀i ys H,i<n->W i ys H->(Itl K a).go i H/\∀x H',(Itl K a).yld i H x H'->dX 0 x (compσ 1 ag σ) H' fun σ2 H2=>dh 1 ag σ σ2/\tt σ2 H2 fun b H3=>if b=true then dz 0 σ2 H3 fun v H4=>W (i+1) (ys++[v]) H4 else W (i+1) ys H3:=by
 refine⟨n,fun i ys H'=>au H H'/\ys=((Z4 i).filter b).map fun i=>V.ref (rf i),aS hn,⟨au.refl _,rfl⟩,?_,?_⟩
 ·rintro ys H' ⟨sW,rfl⟩;exact⟨⟨_,SqL.of (sW _ _ hl),by rw[av];exact Nat.le_refl _⟩,fun D hD=>hd D H' sW hD⟩
 ·rintro i ys H' hi ⟨sW,rfl⟩;refine⟨⟨_,_,SqL.of (sW _ _ hl),aY hi⟩,fun x H2 hy=>?_⟩;obtain⟨rfl,hy⟩:=hy;obtain⟨_,rfl⟩:=bN (hy _ (SqL.of (sW _ _ hl)));refine⟨dC (by decide),ht i hi _ sW _ fun H'' EX=>?_⟩
  have step:(((Z4 (i+1)).filter b).map fun i=>V.ref (rf i))=(((Z4 i).filter b).map fun i=>V.ref (rf i))++(if b i=true then [.ref (rf i)] else []):=by
   rw[Ye,YX,ZU,YY,Wy]
   split<;>rfl
  cases hb:b i with
  |true=>
   refine c9 ⟨.ref (rf i),by simp[compσ],sW.trans EX,?_⟩
   show _=(((Z4 (i+1)).filter b).map fun i=>V.ref (rf i));rw[step,if_pos hb]
  |false=>
   refine fk ⟨sW.trans EX,?_⟩;show _=(((Z4 (i+1)).filter b).map fun i=>V.ref (rf i));rw[step,if_neg (by rw[hb];decide),ZT]
section
variable{P:Zv}{w:Zl}{K:Z3}{mg:Str->Option Value}{base:ZF}{f:Addr}{fd:Zf}
theorem rW:aD ["corners","triangles"] ["corners"] (aq jB):=.mk'
theorem zk:(["k","corners"]:List Str).Nodup:=by decide +kernel
theorem vD:(["triangle","corners"]:List Str).Nodup:=by decide +kernel
theorem DN{cs:List Pt}(co:aJ cs)(n1:3<=cs.length){k:Nat}(hk:k<cs.length):aJ (t3 (trK cs k)):=fun i hi=>by
 have hi:i<3:=hi;have h1:=kR hk;have h2:=kR h1;rcases i with _|_|_|i
 ·exact co _ h2
 ·exact co _ h1
 ·exact co _ hk
 ·lia
theorem wR(F:Fun K "loose_triangle" "loose_triangle" jB f fd)(cL:Cal P w K mg base 3 "is_loose" ["triangle","corners"] uI)(E5:mg "len" = none)(E4:mg "range" = none):aI P w K mg base CX0 4 f fd ["corners"] tE:=by
 refine F.ok rW (by rintro _ _ _ _⟨_,_,_,_,rfl,_⟩;rfl) fun E3 A outer s H vs Q E hr h=>?_
 obtain⟨l,rf,cs,k,rfl,hp,co,n3,n4,hf,q⟩:=h;refine⟨_,am (db (i:=1) (N':=["k","corners"]) (own:=1) (ag:=[0]) rfl (aO.of (sc:=aq jB) (N0:=["corners","triangles"]) rfl rfl (by decide +kernel)) rW.nd rfl (ZQ rfl) (eC rfl E4 (pa1 (aN aW rfl E5 ZJ (pa1 (pv 0))))) (fun _ _ _ _ _ _=>(aM (i:=0) zk rfl (ZQ rfl))) (fun C cl fp aa s₂ H₂=>bQ) (fun _ _ _ _ _ _=>(bK (pa3 (ak gr (pv 1) (ai bf (pv 0) ad)) (ak gr (pv 1) (ai bf (pv 0) ad)) (ak gr (pv 1) (pv 0))))))
  (ap (aC (ak aH (bA (N':=["triangle","corners"]) (own:=1) (ag:=[0]) rfl (aO.of (sc:=aq jB) (N0:=["corners","triangles"]) rfl rfl (by decide +kernel)) (bp (pv 1)) (fun _ _ _ _ _ _=>(aM (i:=0) vD rfl (ZQ rfl))) (fun C cl fp aa s₂ H₂=>fh (c7 (ay cL hr (pa2 (pv 0) (pv 1))))) (fun _ _ _ _ _ _=>(pv 0))) ad))),?_⟩
 refine⟨_,rfl,l,_,rfl,.inl (SqL.of hp.1),?_⟩;rw[av];refine⟨_,rfl,by lia,by lia,cs.length,fun i ys H'=>au H H'/\∃ts:Nat->Addr,ys=aw i ts/\∀j,j<i->H (ts j)=none/\∃rg,PLs H' (ts j) rg (t3 (trK cs j)),aS (by lia),⟨au.refl _,fun _=>l,rfl,fun j hj=>absurd hj (by lia)⟩,fun ys H' hW=>⟨by show _<=_;lia,fun D hD=>⟨[_,_],rfl,?_⟩⟩,fun i ys H' hi hW=>⟨by show _<_;lia,fun x H2 hy=>?_⟩⟩
 rotate_left
 ·obtain⟨rfl,rfl⟩:=hy;obtain⟨sW,ts,rfl,hts⟩:=hW;refine⟨dC (by decide),c9 ?_⟩
  have hp2:=hp.mono sW;have i0:(0:Int)+(i:Int)=(i:Int):=by lia
  rw[i0];have h1:=kR hi;have h2:=kR h1;refine⟨_,rfl,_,rfl,_,_,rfl,rfl,l,_,_,_,rfl,rfl,SqL.of hp2.1,pH hi (by lia),_,rfl,_,rfl,_,_,rfl,rfl,l,_,_,_,rfl,rfl,SqL.of hp2.1,jG hi,_,rfl,_,rfl,l,_,_,_,rfl,rfl,SqL.of hp2.1,ef hi,aS (show 3<=1000 by decide),fun p hpn=>?_⟩
  have s3:=ao hpn (.lst [.ref (rf (pvN cs.length (pvN cs.length i))),.ref (rf (pvN cs.length i)),.ref (rf i)]);refine⟨sW.trans s3,fun j=>if j<i then ts j else p,fw,fun j hj=>?_⟩
  by_cases e:j<i
  ·dsimp only;rw[if_pos e];obtain⟨z1,rg,z2⟩:=hts j e;exact⟨z1,rg,z2.mono s3⟩
  ·have ej:j=i:=by lia
   subst ej;dsimp only;rw[if_neg e];exact⟨eB sW hpn,_,mk3 hpn (hp2.2 _ h2) (hp2.2 _ h1) (hp2.2 _ hi)⟩
 obtain⟨sW,ts,rfl,hts⟩:=hW;have s2:=ao hD (.lst (aw cs.length ts));have hD2:(upd H' D (.lst (aw cs.length ts))) D=some (.lst (aw cs.length ts)):=aj;have hts2:∀j,j<cs.length->H (ts j)=none/\∃rg,PLs (upd H' D (.lst (aw cs.length ts))) (ts j) rg (t3 (trK cs j)):=fun j hj=>⟨(hts j hj).1,(hts j hj).2.elim fun rg z=>⟨rg,z.mono s2⟩⟩;have sH2:=sW.trans s2;generalize upd H' D (.lst (aw cs.length ts))=H2 at *
 have hp2:=hp.mono sH2;refine⟨_,rfl,D,rfl,⟨_,SqL.of hD2⟩,?_⟩;refine vm (fF cs) (by lia) hD2 (fun i hi H3 s3 Qb hq=>?_) (fun D3 H3 s3 hD3=>?_)
 ·obtain⟨_,rg,z⟩:=hts2 i hi;exact⟨_,rfl,_,rfl,ts i,rg,trK cs i,l,rf,cs,rfl,z.mono s3,DN co n3 hi,hp2.mono s3,co,n4,fun H4 s4=>⟨_,rfl,hq H4 s4⟩⟩
 ·have hk:∃js,(Z4 cs.length).filter (fF cs)=k::js:=by
   unfold gE at hf;rw[<-List.head?_filter]at hf;cases z:(Z4 cs.length).filter (fF cs) with
   |nil=>rw[z]at hf;cases hf
   |cons y ys=>rw[z]at hf;cases hf;exact⟨ys,rfl⟩
  have kn:k<cs.length:=Zy.mp (Yn hf);obtain⟨js,hk⟩:=hk;rw[hk];obtain⟨z0,rg,z⟩:=hts2 k kn;have s4:=ao hD3 (.lst ((k::js).map fun i=>V.ref (ts i)));exact⟨D3,_,_,_,rfl,rfl,SqL.of aj,wK,q _ rg _ (sH2.trans (s3.trans s4)) z0 (z.mono (s3.trans s4))⟩
end
end FD
end
section
namespace FD
open PySem L2 FF
noncomputable def gC(H:Hp)(a:Addr)(t:Tri):Prop:=∃rg,PLs H a rg (t3 t)
theorem gC.mono{H H':Hp}{a:Addr}{t:Tri}(h:gC H a t)(s:au H H'):gC H' a t:=h.elim fun rg z=>⟨rg,z.mono s⟩
theorem gC.upd{H:Hp}{a r:Addr}{t:Tri}{xs ys:List V}(h:gC H a t)(ne:a≠r)(hr:H r=some (.lst xs)):gC (upd H r (.lst ys)) a t:=by
 obtain⟨rg,h1,h2⟩:=h;refine⟨rg,by rw[aG ne];exact h1,fun i hi=>?_⟩
 have q:=h2 i hi;have ne:rg i≠r:=iZ q hr (by intro z;cases z)
 show L2.upd H r _ (rg i)=_;rw[aG ne];exact q
theorem rY{H:Hp}{a r:Addr}{rg:Nat->Addr}{cs:List Pt}{xs ys:List V}(h:PLs H a rg cs)(ne:a≠r)(hr:H r=some (.lst xs)):PLs (upd H r (.lst ys)) a rg cs:=by
 obtain⟨h1,h2⟩:=h;refine⟨by rw[aG ne];exact h1,fun i hi=>?_⟩
 have q:=h2 i hi;have ne:rg i≠r:=iZ q hr (by intro z;cases z)
 show L2.upd H r _ (rg i)=_;rw[aG ne];exact q
inductive TAs(H:Hp):List Addr->List Tri->Prop
 |nil:TAs H [] []
 |cons {a:Addr} {t:Tri} {as:List Addr} {ts:List Tri} (h:gC H a t) (r:TAs H as ts):TAs H (a::as) (t::ts)
theorem TAs.map{H H':Hp}{as:List Addr}{ts:List Tri}(h:TAs H as ts)(f:∀a∈as,∀t,gC H a t->gC H' a t):TAs H' as ts:=by
 induction h with
 |nil=>exact .nil
 |cons x r ih=>exact .cons (f _ (by simp) _ x) (ih fun a ha=>f a (by simp[ha]))
theorem TAs.mono{H H':Hp}{as:List Addr}{ts:List Tri}(h:TAs H as ts)(s:au H H'):TAs H' as ts:=h.map fun _ _ _ z=>z.mono s
theorem TAs.upd{H:Hp}{as:List Addr}{ts:List Tri}{r:Addr}{xs ys:List V}(h:TAs H as ts)(ne:∀a∈as,a≠r)(hr:H r=some (.lst xs)):TAs (upd H r (.lst ys)) as ts:=h.map fun a ha _ z=>z.upd (ne a ha) hr
theorem TAs.app{H:Hp}{as bs:List Addr}{ts us:List Tri}(h:TAs H as ts)(k:TAs H bs us):TAs H (as++bs) (ts++us):=by
 induction h with
 |nil=>exact k
 |cons x r ih=>exact .cons x ih
theorem TAs.len{H:Hp}{as:List Addr}{ts:List Tri}(h:TAs H as ts):as.length=ts.length:=by
 induction h with
 |nil=>rfl
 |cons x r ih=>simp[ih]
theorem TAs.there{H:Hp}{as:List Addr}{ts:List Tri}(h:TAs H as ts):∀a∈as,∃xs,H a=some (.lst xs):=by
 induction h with
 |nil=>intro a ha;cases ha
 |cons x r ih=>
  intro a ha;rcases Zz.mp ha with rfl|ha
  ·exact x.elim fun rg z=>⟨_,z.1⟩
  ·exact ih a ha
theorem TAs.last{H:Hp}{as:List Addr}{ts:List Tri}(h:TAs H as ts)(n:0<as.length):∃as' a ts' t,as=as'++[a]/\ts=ts'++[t]/\TAs H as' ts'/\gC H a t:=by
 induction h with
 |nil=>cases n
 | @cons a t as ts x r ih=>
  cases as with
  |nil=>cases r;exact⟨[],a,[],t,rfl,rfl,.nil,x⟩
  |cons b bs=>
   obtain⟨as',a',ts',t',e1,e2,h1,h2⟩:=ih (by simp)
   exact⟨a::as',a',t::ts',t',by rw[e1];rfl,by rw[e2];rfl,.cons x h1,h2⟩
noncomputable def u7:Sp:=fun vs H Q _=>∃l rf cs ts,vs=[.ref l]/\PLs H l rf cs/\aJ cs/\cs.length<=400/\bM cs ts/\
 ∀r as H',au H H'->H r=none->H' r=some (.lst (as.map V.ref))->TAs H' as ts->(∀a∈as,a≠r)->as.length<=400->Q (.ref r) H'
theorem xY{cs:List Pt}{ts:List Tri}(h:bM cs ts)(n:cs.length<=3):∃t,cs=t3 t/\ts=[t]:=by
 cases h with
 | @done a b c h=>exact⟨(a,b,c),rfl,rfl⟩
 |cut n4 f r=>lia
theorem Ak{cs:List Pt}{ts:List Tri}(h:bM cs ts)(n:3<cs.length):∃k ts',gE cs=some k/\ts=trK cs k::ts'/\bM (cs.filter fun p=>p != at' cs (pvN cs.length k)) ts':=by
 cases h with
 | @done a b c h=>exact absurd n (by simp)
 | @cut _ k ts' n4 f r=>exact⟨k,ts',f,rfl,r⟩
theorem sX{cs:List Pt}(h:aJ cs)(pb:Pt->Bool):aJ (cs.filter pb):=fun j hj=>by
 obtain⟨k,hk,e⟩:=Yv (ZI.mp (b7 hj)).1
 have:=h k hk
 rw[show at' cs k=at' (cs.filter pb) j by rw[<-e,bb,Z0,Z2 hk];rfl]at this
 exact this
theorem xJ{cs:List Pt}{k:Nat}(hk:k<cs.length):(cs.filter fun p=>p != at' cs k).length<cs.length:=by
 have h1:=XO (fun p=>p != at' cs k) cs;rcases Nat.lt_or_eq_of_le h1 with h|h
 ·exact h
 ·have:=(WP.mp (Tk List.filter_sublist h)) (at' cs k) (b7 hk)
  simp at this
section
variable{P:Zv}{w:Zl}{K:Z3}{mg:Str->Option Value}{base:ZF}{f:Addr}{fd:Zf}
theorem jA:aD ["corners","rest","triangles","triangle"] ["corners"] (aq nN):=.mk'
theorem zW(F:Fun K "corner_triangles" "corner_triangles" nN f fd)(cL:Cal P w K mg base 4 "loose_triangle" ["corners"] tE)(E5:mg "len" = none)(E9:mg "list" = none):aI P w K mg base CX0 5 f fd ["corners"] u7:=by
 refine F.ok jA (by rintro _ _ _ _⟨_,_,_,_,rfl,_⟩;rfl) fun E3 A outer s H vs Q E hr h=>?_
 obtain⟨l,rf,cs,ts,rfl,hp,co,n4,hc,q⟩:=h;have hu:=hr.un;have hu2:A.units+3+5<cLine:=by have:A.units+3+16*4+200<cLine:=hu;lia
 refine⟨_,am (aE (i:=1) jA.nd (fC i6 rfl E9 Xx (pa1 (pv 0))))
  (am (aE (i:=2) jA.nd (bK iI))
  (am (lS Yb (aQ gX (aN aW rfl E5 ZJ (pa1 (pv 1))) ad) (am (aE (i:=3) jA.nd (ay cL hr (pa1 (pv 1))))
   (am (aV (i5 Y3 Xh Xg iV (pv 2) (pa1 (pv 3))))
   (ap (db (i:=1) (N':=["corner","triangle"]) (own:=1) (ag:=[3]) rfl (aO.of (sc:=aq nN) (N0:=["corners","rest","triangles","triangle"]) rfl rfl (by decide +kernel)) jA.nd rfl (ZQ rfl) (bp (pv 1)) (fun _ _ _ _ _ _=>(aM (i:=0) jZ rfl (ZQ rfl))) (fun C cl fp aa s₂ H₂=>fh (aQ (Bq (K:=K) rfl hu2) (pv 0) (ak gr (pv 1) ad))) (fun _ _ _ _ _ _=>(pv 0)))))))
  (ap (aC (ai dL (pv 2) (bK (pa1 (pv 1)))))))),?_⟩
 refine⟨_,rfl,l,rf,cs,rfl,hp,fun r1 H1 s1 hp1=>⟨[_,_,_,_],rfl,?_⟩⟩;refine⟨aS (show 0<=1000 by decide),fun tr htr=>⟨[_,_,_,_],rfl,?_⟩⟩
 have s2:=ao htr (.lst []);have ht2:(upd H1 tr (.lst [])) tr=some (.lst (([]:List Addr).map V.ref)):=aj;have ntr:H tr=none:=eB s1 htr;have ne1:r1≠tr:=a9 hp1.1 htr;have sH2:=s1.trans s2;have hp2:=hp1.mono s2;generalize upd H1 tr (.lst [])=H2 at *
 refine⟨fun m σ H'=>∃r1 rf1 cs1 ts1 dn as x3,m=cs1.length/\σ=[some (.ref l),some (.ref r1),some (.ref tr),x3]/\au H H'/\H' tr=some (.lst (as.map V.ref))/\TAs H' as dn/\(∀a∈as,a≠tr)/\PLs H' r1 rf1 cs1/\r1≠tr/\aJ cs1/\as.length+cs1.length<=400/\bM cs1 ts1/\dn++ts1=ts,
  ⟨_,r1,rf,cs,ts,[],[],none,rfl,rfl,sH2,ht2,.nil,(fun a ha=>by cases ha),hp2,ne1,co,by simpa using n4,hc,rfl⟩,?_⟩
 clear hp1 hp2 ne1 ht2 htr sH2 s2 s1;rintro m σ H3 ⟨r1,rf1,cs1,ts1,dn,as,x3,rfl,rfl,s3,htr,hT,neA,hp1,ne1,co1,n5,hc1,eT⟩;refine⟨_,rfl,r1,_,rfl,.inl (SqL.of hp1.1),?_⟩;rw[av];refine⟨_,_,rfl,rfl,_,rfl,?_⟩;refine aU (fun c=>?_) (fun c=>⟨[_,_,_,_],rfl,?_⟩)
 ·have c3:3<cs1.length:=by have:=Zx c;lia
  obtain⟨k,ts',hf,e1,hc'⟩:=Ak hc1 c3;have kn:k<cs1.length:=Zy.mp (Yn (show (Z4 cs1.length).find? _=some k from hf))
  refine⟨_,fun σ' H' z=>z,?_⟩;refine⟨_,rfl,r1,rf1,cs1,k,rfl,hp1,co1,by lia,by lia,hf,fun a rg H4 s4 na hA=>⟨[_,_,_,_],rfl,?_⟩⟩
  have htr4:=s4 _ _ htr;have neT:a≠tr:=fun e=>by rw[e,htr]at na;cases na
  have hp4:=hp1.mono s4;have hT4:=hT.mono s4;refine⟨_,rfl,.inl ⟨rfl,_,SqL.of htr4⟩,_,rfl,tr,_,_,rfl,rfl,htr4,by rw[Z6];exact Nat.lt_of_lt_of_le (show as.length<1000 by lia) (aS (Nat.le_refl 1000)),⟨[_,_,_,_],rfl,?_⟩⟩
  have e5:(as.map V.ref++[V.ref a])=(as++[a]).map V.ref:=by rw[ZU];rfl
  have ht5:(L2.upd H4 tr (.lst (as.map V.ref++[V.ref a]))) tr=some (.lst ((as++[a]).map V.ref)):=by rw[aj,e5]
  have hT5:TAs (L2.upd H4 tr (.lst (as.map V.ref++[V.ref a]))) (as++[a]) (dn++[trK cs1 k]):=(hT4.upd neA htr4).app (.cons (gC.upd ⟨rg,hA⟩ neT htr4) .nil);have hA5:PLs (L2.upd H4 tr (.lst (as.map V.ref++[V.ref a]))) a rg (t3 (trK cs1 k)):=rY hA neT htr4;have hp5:PLs (L2.upd H4 tr (.lst (as.map V.ref++[V.ref a]))) r1 rf1 cs1:=rY hp4 ne1 htr4;have s5:au H (L2.upd H4 tr (.lst (as.map V.ref++[V.ref a]))):=FD.au.updN (s3.trans s4) ntr;generalize L2.upd H4 tr (.lst (as.map V.ref++[V.ref a]))=H5 at *
  refine⟨_,rfl,r1,rfl,⟨_,SqL.of hp5.1⟩,?_⟩;refine fB (rf:=rf1) (n:=cs1.length) (fun i=>at' cs1 i != at' cs1 (pvN cs1.length k)) (aS (by lia)) (SqL.of hp5.1) (fun i hi Qb hq=>?_) (fun D hD=>?_)
  ·refine⟨_,rfl,_,rfl,a,_,_,_,rfl,rfl,SqL.of hA5.1,a31,rf1 i,rg 1,at' cs1 i,at' cs1 (pvN cs1.length k),rfl,rfl,hp5.2 i hi,p31 hA5,_,rfl,?_⟩;have e:(!decide (at' cs1 i=at' cs1 (pvN cs1.length k)))=(at' cs1 i != at' cs1 (pvN cs1.length k)):=by
    rw[ZS];simp
   rw[e];exact hq
  ·have s6:=ao hD (.lst (((Z4 cs1.length).filter fun i=>at' cs1 i != at' cs1 (pvN cs1.length k)).map fun i=>V.ref (rf1 i)));obtain⟨rg6,h6⟩:=jF hp5 (fun p=>p != at' cs1 (pvN cs1.length k)) s6 aj;have lt:=xJ (kR kn);exact⟨_,lt,D,rg6,_,ts',dn++[trK cs1 k],as++[a],_,rfl,rfl,s5.trans s6,s6 _ _ ht5,hT5.mono s6,(fun b hb=>by
    rcases ZE.mp hb with z|z
    ·exact neA b z
    ·rw[Zj.mp z];exact neT),h6,(fun e=>by rw[e,ht5]at hD;cases hD),sX co1 _,by rw[Z5];simp only[YS];lia,hc',by rw[<-eT,e1,Y2];rfl⟩
 ·have c3:cs1.length<=3:=by
   have:¬((3:Int)<(cs1.length:Int)):=fun z=>c (Zt z)
   lia
  obtain⟨t,rfl,rfl⟩:=xY hc1 c3;refine⟨_,rfl,_,rfl,aS (show 1<=1000 by decide),fun z hz=>?_⟩
  have s4:=ao hz (.lst [.ref r1]);refine⟨tr,z,_,_,rfl,rfl,s4 _ _ htr,aj,by rw[Z6];exact aS (show as.length+1<=1000 by have:(t3 t).length=3:=rfl;lia),fun p hpn=>?_⟩
  have s5:=ao hpn (.lst (as.map V.ref++[.ref r1]));have s45:=s4.trans s5;have hT5:TAs _ (as++[r1]) (dn++[t]):=(hT.mono s45).app (.cons ⟨rf1,hp1.mono s45⟩ .nil);rw[eT]at hT5;refine q p (as++[r1]) _ (s3.trans s45) (eB (s3.trans s4) hpn) (by rw[aj,ZU];rfl) hT5 (fun b hb e=>?_) (by have:(t3 t).length=3:=rfl;rw[Z5];simp only[YS];lia)
  have hb':∃xs,(L2.upd H3 z (.lst [.ref r1])) b=some (.lst xs):=by
   rcases ZE.mp hb with y|y
   ·obtain⟨xs,e⟩:=hT.there b y;exact⟨xs,s4 _ _ e⟩
   ·rw[Zj.mp y];exact⟨_,s4 _ _ hp1.1⟩
  obtain⟨xs,h⟩:=hb';rw[e,hpn]at h;cases h
end
end FD
end
section
namespace FD
open PySem L2 FF
noncomputable def fq(t:Tri)(i o:Int):Pt:=(gR t.1 t.2.1 t.2.2 i o,gY t.1 t.2.1 t.2.2 i o)
noncomputable def uA:Sp:=fun vs H Q _=>∃l rf t i o,vs=[.ref l,.int i,.int o]/\PLs H l rf (t3 t)/\aJ (t3 t)/\Sm 1000 i/\Sm 1000 o/\∀p H',au H H'->PtA H' p (fq t i o)->Q (.ref p) H'
noncomputable def AI:Sp:=fun vs H Q _=>∃l rf t,vs=[.ref l]/\PLs H l rf (t3 t)/\aJ (t3 t)/\2<=t2 t/\t2 t<=400/\∀p pt H',au H H'->Wp t p->PtA H' pt p->Q (.ref pt) H'
noncomputable def uD:Sp:=fun vs H Q _=>∃l rf t pt p,vs=[.ref l,.ref pt]/\PLs H l rf (t3 t)/\aJ (t3 t)/\PtA H pt p/\Co p/\
 ∀r as H',au H H'->H r=none->H' r=some (.lst (as.map V.ref))->TAs H' as (dU t p)->(∀a∈as,H a=none)->Q (.ref r) H'
noncomputable def cZ(D:Int):List Pt:=((Z4 (D-1).toNat).map fun (i:Nat)=>((1+(i:Int),0):Pt))++((Z4 D.toNat).map fun (i:Nat)=>((0+(i:Int),1):Pt))
noncomputable def PtW(H:Hp)(g:Nat->Pt)(i:Nat)(ys:List V)(H':Hp):Prop:=au H H'/\∃ts,ys=aw i ts/\∀j,j<i->PtA H' (ts j) (g j)
theorem PtW.nil{H:Hp}{g:Nat->Pt}(a:Addr):PtW H g 0 [] H:=⟨au.refl _,fun _=>a,rfl,fun j hj=>absurd hj (by lia)⟩
theorem PtW.snoc{H H' H4:Hp}{g:Nat->Pt}{i:Nat}{ys:List V}(h:PtW H g i ys H')(s4:au H' H4){t:Addr}(ht:PtA H4 t (g i)):PtW H g (i+1) (ys++[.ref t]) H4:=by
 obtain⟨sW,ts,rfl,hts⟩:=h;refine⟨sW.trans s4,fun j=>if j<i then ts j else t,fw,fun j hj=>?_⟩
 by_cases e:j<i
 ·dsimp only;rw[if_pos e];exact s4 _ _ (hts j e)
 ·have ej:j=i:=by lia
  subst ej;dsimp only;rw[if_neg e];exact ht
theorem PtW.fin{H H':Hp}{g:Nat->Pt}{n:Nat}{ys:List V}(h:PtW H g n ys H'){D:Addr}(hD:H' D=none):au H (upd H' D (.lst ys))/\∃ts,PLs (upd H' D (.lst ys)) D ts ((Z4 n).map g):=by
 obtain⟨sW,ts,rfl,hts⟩:=h;have s:=ao hD (.lst (aw n ts));refine⟨sW.trans s,ts,by rw[aj,Z6,Zd],fun j hj=>?_⟩
 rw[Z6,Zd]at hj;have e:at' ((Z4 n).map g) j=g j:=by
  rw[bb,Z0,Zn,YR hj];rfl
 rw[e];exact s _ _ (hts j hj)
theorem u3{H:Hp}{a b p:Addr}{ra rb:Nat->Addr}{xs ys:List Pt}(ha:PLs H a ra xs)(hb:PLs H b rb ys)(hp:H p=none):PLs (upd H p (.lst (aw xs.length ra++aw ys.length rb))) p (fun i=>if i<xs.length then ra i else rb (i-xs.length)) (xs++ys):=by
 have s:=ao hp (.lst (aw xs.length ra++aw ys.length rb));refine⟨?_,fun i hi=>?_⟩
 ·rw[aj];congr 2;refine XY (by simp[aw]) fun i h1 h2=>?_
  rw[List.getElem_append];by_cases c:i<xs.length
  ·rw[dif_pos (by rw[av];exact c)]
   simp[aw,c]
  ·rw[dif_neg (by rw[av];exact c)]
   simp[aw,c]
 ·rw[Z5]at hi;dsimp only;by_cases c:i<xs.length
  ·rw[if_pos c];have e:at' (xs++ys) i=at' xs i:=by rw[bb,bb,Z0,Z0,ZL c]
   rw[e];exact s _ _ (ha.2 i c)
  ·rw[if_neg c];have e:at' (xs++ys) i=at' ys (i-xs.length):=by rw[bb,bb,Z0,Z0,Y1 (by omega)]
   rw[e];exact s _ _ (hb.2 _ (by omega))
theorem co3{p q r:Pt}(h1:Co p)(h2:Co q)(h3:Co r):aJ (t3 (p,q,r)):=fun i hi=>by
 have hi:i<3:=hi;rcases i with _|_|_|i
 ·exact h1
 ·exact h2
 ·exact h3
 ·omega
theorem uB{H:Hp}{f:Nat->Addr}{g:Nat->Tri}:∀{js:List Nat},(∀j∈js,gC H (f j) (g j))->TAs H (js.map f) (js.map g)
 | [],_=>.nil
 |j::js,h=>.cons (h j (by simp)) (uB fun i hi=>h i (by simp[hi]))
section
variable{P:Zv}{w:Zl}{K:Z3}{mg:Str->Option Value}{base:ZF}{f:Addr}{fd:Zf}
theorem lc:aD ["triangle","along","off","corner","x","y"] ["triangle","along","off"] (aq qZ):=.mk'
theorem Aw{n:Nat}(F:Fun K "step_into" "step_into" qZ f fd):aI P w K mg base CX0 (n+1) f fd ["triangle","along","off"] uA:=by
 refine F.ok lc (by rintro _ _ _ _⟨_,_,_,_,_,rfl,_⟩;rfl) fun E3 A outer s H vs Q E hr h=>?_
 obtain⟨l,rf,t,i,o,rfl,hp,co,si,so,q⟩:=h;refine⟨_,am (aE (i:=3) lc.nd (ak aH (pv 0) ad))
  (am (aE (i:=4) lc.nd (ai a_ (ai a8 (pv 1) (ai bf (ak ax (ak aH (pv 0) ad) ad) (ak ax (pv 3) ad))) (ai a8 (pv 2) (ai bf (ak ax (ak aH (pv 0) ad) ad) (ak ax (pv 3) ad)))))
  (am (aE (i:=5) lc.nd (ai a_ (ai a8 (pv 1) (ai bf (ak ax (ak aH (pv 0) ad) ad) (ak ax (pv 3) ad))) (ai a8 (pv 2) (ai bf (ak ax (ak aH (pv 0) ad) ad) (ak ax (pv 3) ad)))))
  (ap (aC (dW (pa2 (pv 4) (pv 5))))))),?_⟩
 have c0:=c30 co;have c1:=c31 co;have c2:=c32 co;have Bi:Big i:=bv (by have:=si.1;omega) (by have:=si.2;omega)
 have Bo:Big o:=bv (by have:=so.1;omega) (by have:=so.2;omega)
 have h0:=p30 hp;have h1:=p31 hp;have h2:=p32 hp;unfold Co at c0 c1 c2;refine⟨_,rfl,l,_,_,_,rfl,rfl,SqL.of hp.1,a30,[_,_,_,_,_,_],rfl,?_⟩;refine⟨_,rfl,_,rfl,l,_,_,_,rfl,rfl,SqL.of hp.1,a31,_,_,_,_,rfl,rfl,SqT.of h1,at0,_,rfl,_,_,_,_,rfl,rfl,SqT.of h0,at0,_,_,rfl,rfl,_,_,rfl,rfl,⟨Bi,bv (by omega) (by omega)⟩,_,rfl,_,rfl,l,_,_,_,rfl,rfl,SqL.of hp.1,a32,_,_,_,_,rfl,rfl,SqT.of h2,at0,_,rfl,_,_,_,_,rfl,rfl,SqT.of h0,at0,_,_,rfl,rfl,_,_,rfl,rfl,⟨Bo,bv (by omega) (by omega)⟩,_,_,rfl,rfl,[_,_,_,_,_,_],rfl,?_⟩
 refine⟨_,rfl,_,rfl,l,_,_,_,rfl,rfl,SqL.of hp.1,a31,_,_,_,_,rfl,rfl,SqT.of h1,at1,_,rfl,_,_,_,_,rfl,rfl,SqT.of h0,at1,_,_,rfl,rfl,_,_,rfl,rfl,⟨Bi,bv (by omega) (by omega)⟩,_,rfl,_,rfl,l,_,_,_,rfl,rfl,SqL.of hp.1,a32,_,_,_,_,rfl,rfl,SqT.of h2,at1,_,rfl,_,_,_,_,rfl,rfl,SqT.of h0,at1,_,_,rfl,rfl,_,_,rfl,rfl,⟨Bo,bv (by omega) (by omega)⟩,_,_,rfl,rfl,[_,_,_,_,_,_],rfl,?_⟩
 exact⟨_,rfl,_,rfl,_,_,rfl,fun p H' s' hp'=>q p H' s' hp'⟩
theorem pw:aD ["triangle","point","pieces"] ["triangle","point"] (aq jE):=.mk'
theorem An:(["piece"]:List Str).Nodup:=by decide +kernel
theorem vQ(F:Fun K "split_at" "split_at" jE f fd)(cD:Cal P w K mg base 2 "doubled_area" ["triangle"] k7):aI P w K mg base CX0 3 f fd ["triangle","point"] uD:=by
 refine F.ok pw (by rintro _ _ _ _⟨_,_,_,_,_,rfl,_⟩;rfl) fun E3 A outer s H vs Q E hr h=>?_
 obtain⟨l,rf,t,pt,p,rfl,hp,co,hpt,cp,q⟩:=h;refine⟨_,am (aE (i:=2) pw.nd (bK (pa3 (bK (pa3 (ak aH (pv 0) ad) (ak aH (pv 0) ad) (pv 1))) (bK (pa3 (ak aH (pv 0) ad) (ak aH (pv 0) ad) (pv 1))) (bK (pa3 (ak aH (pv 0) ad) (ak aH (pv 0) ad) (pv 1))))))
  (ap (aC (bA (N':=["piece"]) (own:=1) (ag:=[]) rfl (aO.of (sc:=aq jE) (N0:=["triangle","point","pieces"]) rfl rfl (by decide +kernel)) (bp (pv 2)) (fun _ _ _ _ _ _=>(aM (i:=0) An rfl (ZQ rfl))) (fun C cl fp aa s₂ H₂=>fh (aQ gX (ay cD hr (pa1 (pv 0))) ad)) (fun _ _ _ _ _ _=>(pv 0))))),?_⟩
 refine⟨_,rfl,l,_,_,_,rfl,rfl,SqL.of hp.1,a30,_,rfl,l,_,_,_,rfl,rfl,SqL.of hp.1,a31,_,rfl,aS (show 3<=1000 by decide),fun x1 n1=>?_⟩
 have T1:=mk3 n1 (p30 hp) (p31 hp) hpt;have s1:=ao n1 (.lst [.ref (rf 0),.ref (rf 1),.ref pt]);generalize upd H x1 (.lst [.ref (rf 0),.ref (rf 1),.ref pt])=H1 at *
 have hp1:=hp.mono s1;have hpt1:PtA H1 pt p:=s1 _ _ hpt;refine⟨_,rfl,l,_,_,_,rfl,rfl,SqL.of hp1.1,a31,_,rfl,l,_,_,_,rfl,rfl,SqL.of hp1.1,a32,_,rfl,aS (show 3<=1000 by decide),fun x2 n2=>?_⟩
 have T2:=mk3 n2 (p31 hp1) (p32 hp1) hpt1;have s2:=ao n2 (.lst [.ref (rf 1),.ref (rf 2),.ref pt]);generalize upd H1 x2 (.lst [.ref (rf 1),.ref (rf 2),.ref pt])=H2 at *
 have hp2:=hp1.mono s2;have hpt2:PtA H2 pt p:=s2 _ _ hpt1;refine⟨_,rfl,l,_,_,_,rfl,rfl,SqL.of hp2.1,a32,_,rfl,l,_,_,_,rfl,rfl,SqL.of hp2.1,a30,_,rfl,aS (show 3<=1000 by decide),fun x3 n3=>?_⟩
 have T3:=mk3 n3 (p32 hp2) (p30 hp2) hpt2;have s3:=ao n3 (.lst [.ref (rf 2),.ref (rf 0),.ref pt]);generalize upd H2 x3 (.lst [.ref (rf 2),.ref (rf 0),.ref pt])=H3 at *
 refine⟨aS (show 3<=1000 by decide),fun D hD=>⟨[_,_,_],rfl,?_⟩⟩
 have s4:=ao hD (.lst [.ref x1,.ref x2,.ref x3]);have hD4:(upd H3 D (.lst [.ref x1,.ref x2,.ref x3])) D=some (.lst (aw 3 (rg3 x1 x2 x3))):=aj;have sH:=s1.trans (s2.trans (s3.trans s4));have T1:=T1.mono (s2.trans (s3.trans s4));have T2:=T2.mono (s3.trans s4);have T3:=T3.mono s4;generalize upd H3 D (.lst [.ref x1,.ref x2,.ref x3])=H4 at *
 have m1:=eB s1 n2;have m2:=eB (s1.trans s2) n3;clear s1 s2 s3 s4 hp1 hp2 hpt1 hpt2 n2 n3;refine⟨_,rfl,D,rfl,⟨_,SqL.of hD4⟩,?_⟩;have key:∀i,i<3->∃rg,PLs H4 (rg3 x1 x2 x3 i) rg (t3 ((dq t p).getD i t))/\aJ (t3 ((dq t p).getD i t)):=fun i hi=>by
  rcases i with _|_|_|i
  ·exact⟨_,T1,co3 (c30 co) (c31 co) cp⟩
  ·exact⟨_,T2,co3 (c31 co) (c32 co) cp⟩
  ·exact⟨_,T3,co3 (c32 co) (c30 co) cp⟩
  ·omega
 refine fB (rf:=rg3 x1 x2 x3) (n:=3) (fun i=>decide (0<t2 ((dq t p).getD i t))) (aS (by decide)) (SqL.of hD4) (fun i hi Qb hq=>?_) (fun D5 hD5=>?_)
 ·obtain⟨rg,z,cz⟩:=key i hi;exact⟨_,rfl,_,rg,_,rfl,z,cz,_,_,rfl,rfl,_,rfl,hq⟩
 ·have s5:=ao hD5 (.lst (((Z4 3).filter fun i=>decide (0<t2 ((dq t p).getD i t))).map fun i=>V.ref (rg3 x1 x2 x3 i)));have e:((Z4 3).filter fun i=>decide (0<t2 ((dq t p).getD i t))).map (fun i=>(dq t p).getD i t)=dU t p:=by
   have h0:dq t p=(Z4 3).map fun i=>(dq t p).getD i t:=rfl;have h1:=Y_ (UM fun x=>decide (0<t2 x)) h0;rw[WK]at h1;exact h1.symm
  refine q D5 (((Z4 3).filter fun i=>decide (0<t2 ((dq t p).getD i t))).map (rg3 x1 x2 x3)) _ (sH.trans s5) (eB sH hD5) (by rw[aj,YK];rfl) ?_ (fun a ha=>?_)
  ·rw[<-e];refine uB fun j hj=>?_;obtain⟨rg,z,_⟩:=key j (Zy.mp (ZI.mp hj).1);exact⟨rg,z.mono s5⟩
  ·obtain⟨j,hj,rfl⟩:=Y9.mp ha;have hj:=Zy.mp (ZI.mp hj).1;rcases j with _|_|_|j
   ·exact n1
   ·exact m1
   ·exact m2
   ·omega
end
end FD
end
section
namespace FD
open PySem L2 FF
theorem l7{D i o:Int}:(i,o)∈cZ D↔Way D i o:=by
 unfold cZ Way;simp only[ZE,Y9,Zy,Prod.mk.injEq];constructor
 ·rintro (⟨k,hk,e1,e2⟩|⟨k,hk,e1,e2⟩)
  ·left;lia
  ·right;lia
 ·rintro (⟨h1,h2,h3⟩|⟨h1,h2,h3⟩)
  ·left;exact⟨(i-1).toNat,by lia,by lia,by lia⟩
  ·right;exact⟨i.toNat,by lia,by lia,by lia⟩
theorem yR{D:Int}(h:0<=D)(h4:D<=400):(cZ D).length<=800:=by
 unfold cZ;rw[Z5,Z6,Z6,Zd,Zd];lia
noncomputable def fA(t:Tri)(s:Pt):Bool:=decide (s.1%t2 t=0)&&decide (s.2%t2 t=0)
theorem tX{t:Tri}(h2:2<=t2 t):∃s ss,(((cZ (t2 t)).map fun w=>fq t w.1 w.2).filter (fA t))=s::ss/\Wp t (t.1.1+s.1/t2 t,t.1.2+s.2/t2 t):=by
 have ex:∃s,s∈((cZ (t2 t)).map fun w=>fq t w.1 w.2).filter (fA t):=by
  obtain⟨i,o,hw,hx,hy⟩:=wY (a:=t.1) (b:=t.2.1) (c:=t.2.2) h2;refine⟨fq t i o,ZI.mpr ⟨Y9.mpr ⟨(i,o),l7.mpr hw,rfl⟩,?_⟩⟩;unfold fA;rw[Zt (show (fq t i o).1%t2 t=0 from hx),Zt (show (fq t i o).2%t2 t=0 from hy)];rfl
 cases z:((cZ (t2 t)).map fun w=>fq t w.1 w.2).filter (fA t) with
 |nil=>rw[z]at ex;obtain⟨s,hs⟩:=ex;cases hs
 |cons s ss=>
  refine⟨s,ss,rfl,?_⟩;have hs:s∈((cZ (t2 t)).map fun w=>fq t w.1 w.2).filter (fA t):=by rw[z];simp
  obtain⟨h1,h3⟩:=ZI.mp hs;obtain⟨⟨i,o⟩,hw,rfl⟩:=Y9.mp h1;unfold fA at h3;rw[ZA]at h3;exact⟨i,o,l7.mp hw,rfl,Zx h3.1,Zx h3.2⟩
section
variable{P:Zv}{w:Zl}{K:Z3}{mg:Str->Option Value}{base:ZF}{f:Addr}{fd:Zf}
theorem nn:aD ["triangle","parts","ways","steps","whole"] ["triangle"] (aq lQ):=.mk'
theorem rL:(["along"]:List Str).Nodup:=by decide +kernel
theorem wQ:(["along","off","triangle"]:List Str).Nodup:=by decide +kernel
theorem sS:(["step","parts"]:List Str).Nodup:=by decide +kernel
set_option maxHeartbeats 1000000 in
theorem C0(F:Fun K "point_within" "point_within" lQ f fd)(cD:Cal P w K mg base 2 "doubled_area" ["triangle"] k7)(cS:Cal P w K mg base 1 "step_into" ["triangle","along","off"] uA)(E4:mg "range" = none):aI P w K mg base CX0 3 f fd ["triangle"] AI:=by
 refine F.ok nn (by rintro _ _ _ _⟨_,_,_,rfl,_⟩;rfl) fun E3 A outer s H vs Q E hr h=>?_
 obtain⟨l,rf,t,rfl,hp,co,d2,d4,q⟩:=h;refine⟨_,am (aE (i:=1) nn.nd (ay cD hr (pa1 (pv 0))))
  (am (aE (i:=2) nn.nd (ai dL (bA (N':=["along"]) (own:=1) (ag:=[]) rfl (aO.of (sc:=aq lQ) (N0:=["triangle","parts","ways","steps","whole"]) rfl rfl (by decide +kernel)) (pB rfl E4 (pa2 ad (pv 1))) (fun _ _ _ _ _ _=>(aM (i:=0) rL rfl (ZQ rfl))) (fun C cl fp aa s₂ H₂=>bQ) (fun _ _ _ _ _ _=>(dW (pa2 (pv 0) ad)))) (bA (N':=["along"]) (own:=1) (ag:=[]) rfl (aO.of (sc:=aq lQ) (N0:=["triangle","parts","ways","steps","whole"]) rfl rfl (by decide +kernel)) (eC rfl E4 (pa1 (pv 1))) (fun _ _ _ _ _ _=>(aM (i:=0) rL rfl (ZQ rfl))) (fun C cl fp aa s₂ H₂=>bQ) (fun _ _ _ _ _ _=>(dW (pa2 (pv 0) ad))))))
  (am (db (i:=3) (N':=["along","off","triangle"]) (own:=2) (ag:=[0]) rfl (aO.of (sc:=aq lQ) (N0:=["triangle","parts","ways","steps","whole"]) rfl rfl (by decide +kernel)) nn.nd rfl (ZQ rfl) (bp (pv 2)) (fun _ _ _ _ _ _=>(gJ (n:=2) rfl (bw (aM (i:=0) wQ rfl (ZQ rfl)) (bw (aM (i:=1) wQ rfl (ZQ rfl)) e8)))) (fun C cl fp aa s₂ H₂=>bQ) (fun _ _ _ _ _ _=>(ay cS hr (pa3 (pv 2) (pv 0) (pv 1)))))
  (am (db (i:=4) (N':=["step","parts"]) (own:=1) (ag:=[1]) rfl (aO.of (sc:=aq lQ) (N0:=["triangle","parts","ways","steps","whole"]) rfl rfl (by decide +kernel)) nn.nd rfl (ZQ rfl) (bp (pv 3)) (fun _ _ _ _ _ _=>(aM (i:=0) sS rfl (ZQ rfl))) (fun C cl fp aa s₂ H₂=>fh (PW.pt (gG (aQ be (ai dv (ak bG (pv 0) ad) (pv 1)) ad) (fN (aQ be (ai dv (ak bG (pv 0) ad) (pv 1)) ad))))) (fun _ _ _ _ _ _=>(pv 0)))
  (ap (aC (dW (pa2 (ai a_ (ak ax (ak aH (pv 0) ad) ad) (ai gy (ak ax (ak aH (pv 4) ad) ad) (pv 1))) (ai a_ (ak ax (ak aH (pv 0) ad) ad) (ai gy (ak ax (ak aH (pv 4) ad) ad) (pv 1)))))))))),?_⟩
 refine⟨_,rfl,l,rf,t,rfl,hp,co,[_,_,_,_,_],rfl,?_⟩;refine⟨_,rfl,_,_,rfl,⟨by decide,by decide,by lia,by lia⟩,(t2 t-1).toNat,fun i ys H'=>PtW H (fun i=>(1+(i:Int),0)) i ys H',aS (by lia),PtW.nil l,fun ys H' hW=>⟨by show _<=_;lia,fun D1 hD1=>?_⟩,fun i ys H' hi hW=>⟨by show _<_;lia,fun x H2 hy=>?_⟩⟩
 rotate_left
 ·obtain⟨rfl,rfl⟩:=hy;exact⟨dC (by decide),c9 ⟨_,rfl,_,_,rfl,fun t H4 s4 p4=>hW.snoc s4 p4⟩⟩
 obtain⟨s1,ts1,hp1⟩:=hW.fin hD1;generalize upd H' D1 (.lst ys)=H1 at *
 clear hW hD1;refine⟨_,rfl,_,rfl,by lia,by lia,(t2 t).toNat,fun i ys H'=>PtW H1 (fun i=>(0+(i:Int),1)) i ys H',aS (by lia),PtW.nil l,fun ys H' hW=>⟨by show _<=_;lia,fun D2 hD2=>?_⟩,fun i ys H' hi hW=>⟨by show _<_;lia,fun x H2 hy=>?_⟩⟩
 rotate_left
 ·obtain⟨rfl,rfl⟩:=hy;exact⟨dC (by decide),c9 ⟨_,rfl,_,_,rfl,fun t H4 s4 p4=>hW.snoc s4 p4⟩⟩
 obtain⟨s2,ts2,hp2⟩:=hW.fin hD2;generalize upd H' D2 (.lst ys)=H2 at *
 clear hW hD2;have hp1:=hp1.mono s2;have wl:=yR (D:=t2 t) (by lia) d4
 have wl':(cZ (t2 t)).length=_:=Z5;refine⟨D1,D2,_,_,rfl,rfl,hp1.1,hp2.1,by rw[av,av,<-wl'];exact aS (by lia),fun D3 hD3=>⟨[_,_,_,_,_],rfl,?_⟩⟩
 have hp3:=u3 hp1 hp2 hD3;have s3:=ao hD3 (.lst (aw ((Z4 (t2 t-1).toNat).map fun (i:Nat)=>((1+(i:Int),0):Pt)).length ts1++aw ((Z4 (t2 t).toNat).map fun (i:Nat)=>((0+(i:Int),1):Pt)).length ts2));generalize upd H2 D3 (.lst (aw ((Z4 (t2 t-1).toNat).map fun (i:Nat)=>((1+(i:Int),0):Pt)).length ts1++aw ((Z4 (t2 t).toNat).map fun (i:Nat)=>((0+(i:Int),1):Pt)).length ts2))=H3 at *
 have sH3:=s1.trans (s2.trans s3);have hp3:PLs H3 D3 _ (cZ (t2 t)):=hp3;generalize (fun i=>if i<((Z4 (t2 t-1).toNat).map fun (i:Nat)=>((1+(i:Int),0):Pt)).length then ts1 i else ts2 (i-((Z4 (t2 t-1).toNat).map fun (i:Nat)=>((1+(i:Int),0):Pt)).length))=rw3 at *
 clear hp1 hp2 s1 s2 s3 hD3 wl';have wb:∀i,i<(cZ (t2 t)).length->Sm 1000 (at' (cZ (t2 t)) i).1/\Sm 1000 (at' (cZ (t2 t)) i).2:=fun i hi=>by
  have:=l7.mp (show ((at' (cZ (t2 t)) i).1,(at' (cZ (t2 t)) i).2)∈cZ (t2 t) from b7 hi)
  unfold Way at this;unfold Sm;lia
 have wf:=tX d2;have e4:((cZ (t2 t)).map fun w=>fq t w.1 w.2)=(Z4 (cZ (t2 t)).length).map fun i=>fq t (at' (cZ (t2 t)) i).1 (at' (cZ (t2 t)) i).2:=by
  have h1:=Y_ (U3 fun w:Pt=>fq t w.1 w.2) (lO (cZ (t2 t)));rw[YK]at h1;exact h1
 rw[e4]at wf;generalize cZ (t2 t)=ws at *
 refine⟨_,rfl,D3,rfl,⟨_,SqL.of hp3.1⟩,?_⟩;refine⟨ws.length,fun i ys H'=>PtW H3 (fun i=>fq t (at' ws i).1 (at' ws i).2) i ys H',aS (by lia),PtW.nil l,fun ys H' hW=>⟨⟨_,SqL.of (hW.1 _ _ hp3.1),by rw[av];exact Nat.le_refl _⟩,fun D4 hD4=>⟨[_,_,_,_,_],rfl,?_⟩⟩,
  fun i ys H' hi hW=>⟨⟨_,_,SqL.of (hW.1 _ _ hp3.1),aY hi⟩,fun x H4 hy=>?_⟩⟩
 rotate_left
 ·obtain⟨rfl,hy⟩:=hy;obtain⟨_,rfl⟩:=bN (hy _ (SqL.of (hW.1 _ _ hp3.1)));refine⟨_,_,rfl,SqT.of (hW.1 _ _ (hp3.2 i hi)),rfl,_,_,rfl,_,_,rfl,rfl,iL (by decide) (by decide),c9 ?_⟩
  exact⟨_,rfl,_,rfl,_,rfl,l,rf,t,_,_,rfl,(hp.mono sH3).mono hW.1,co,(wb i hi).1,(wb i hi).2,fun p H5 s5 p5=>hW.snoc s5 p5⟩
 obtain⟨s4,ts4,hp4⟩:=hW.fin hD4;generalize upd H' D4 (.lst ys)=H4 at *
 clear hW hD4;have n4:((Z4 ws.length).map fun i=>fq t (at' ws i).1 (at' ws i).2).length<=800:=by rw[Z6,Zd];exact wl
 generalize ((Z4 ws.length).map fun i=>fq t (at' ws i).1 (at' ws i).2)=ss at *
 have d0:0<t2 t:=by lia
 refine⟨_,rfl,D4,rfl,⟨_,SqL.of hp4.1⟩,?_⟩;refine fB (rf:=ts4) (n:=ss.length) (fun i=>fA t (at' ss i)) (aS (by lia)) (SqL.of hp4.1) (fun i hi Qb hq=>?_) (fun D5 hD5=>⟨[_,_,_,_,_],rfl,?_⟩)
 ·refine⟨_,rfl,_,_,_,_,rfl,rfl,SqT.of (hp4.2 i hi),at0,_,rfl,_,_,rfl,rfl,d0,rfl,_,rfl,?_⟩;unfold fA at hq;have ed:∀x:Int,decide (V.int x=V.int 0)=decide (x=0):=fun x=>by
   rw[ZS];simp
  rw[ed];refine aU (fun c=>?_) (fun c=>?_)
  ·rw[c]at hq;refine⟨_,rfl,_,_,_,_,rfl,rfl,SqT.of (hp4.2 i hi),at1,_,rfl,_,_,rfl,rfl,d0,rfl,_,rfl,?_⟩;rw[ed];exact hq
  ·have c':decide ((at' ss i).1%t2 t=0)=false:=by simpa using c
   rw[c']at hq;exact hq
 have s5:=ao hD5 (.lst (((Z4 ss.length).filter fun i=>fA t (at' ss i)).map fun i=>V.ref (ts4 i)));obtain⟨rg5,hp5⟩:=jF hp4 (fA t) s5 aj;generalize upd H4 D5 (.lst (((Z4 ss.length).filter fun i=>fA t (at' ss i)).map fun i=>V.ref (ts4 i)))=H5 at *
 obtain⟨s0,af,ew,hW⟩:=wf;rw[ew]at hp5;have sH5:=sH3.trans (s4.trans s5);have hpT:=hp.mono sH5;have h0:PtA H5 (rg5 0) s0:=hp5.2 0 (by simp)
 have hT0:=p30 hpT;have Bd:Big (t2 t):=bv (by lia) (by lia)
 have a50:atI (aw (s0::af).length rg5) 0=some (.ref (rg5 0)):=c8 (j:=0) (aY (by simp))
 refine⟨_,rfl,l,_,_,_,rfl,rfl,SqL.of hpT.1,a30,_,_,_,_,rfl,rfl,SqT.of hT0,at0,_,rfl,D5,_,_,_,rfl,rfl,SqL.of hp5.1,a50,_,_,_,_,rfl,rfl,SqT.of h0,at0,_,rfl,_,_,rfl,rfl,⟨d0,Bd⟩,_,_,rfl,rfl,_,rfl,l,_,_,_,rfl,rfl,SqL.of hpT.1,a30,_,_,_,_,rfl,rfl,SqT.of hT0,at1,_,rfl,D5,_,_,_,rfl,rfl,SqL.of hp5.1,a50,_,_,_,_,rfl,rfl,SqT.of h0,at1,_,rfl,_,_,rfl,rfl,⟨d0,Bd⟩,_,_,rfl,rfl,_,_,rfl,fun pt H6 s6 p6=>?_⟩;exact q _ pt H6 (sH5.trans s6) hW p6
end
end FD
end
section
namespace FF
theorem Dt:oa cr:=⟨fun p q=>by unfold cr;lia,fun a b p h _ _=>by unfold turn at h;unfold cr;grind⟩
theorem mi(F:Pt->Pt->Int)(xs ys:List Tri):bB F (xs++ys)=bB F xs+bB F ys:=by
 induction xs with
 |nil=>show bB F ys=0+bB F ys;lia
 |cons x xs ih=>
  have e:bB F (x::xs++ys)=tri F x+bB F (xs++ys):=rfl;have e2:bB F (x::xs)=tri F x+bB F xs:=rfl;rw[e,e2,ih];lia
theorem Aj{ts:List Tri}(h:∀t∈ts,t2 t=1):bB cr ts=(ts.length:Int):=by
 induction ts with
 |nil=>rfl
 |cons x xs ih=>
  have e2:bB cr (x::xs)=tri cr x+bB cr xs:=rfl;have h1:tri cr x=1:=(k8 x).trans (h x (by simp))
  rw[e2,h1,ih fun t ht=>h t (by simp[ht]),Zg];lia
theorem uO{ts:List Tri}(h:∀t∈ts,0<t2 t):(ts.length:Int)<=bB cr ts:=by
 induction ts with
 |nil=>exact Int.le_refl _
 |cons x xs ih=>
  have e2:bB cr (x::xs)=tri cr x+bB cr xs:=rfl;have h1:tri cr x=t2 x:=k8 x;have h2:=h x (by simp)
  have h3:=ih fun t ht=>h t (by simp[ht])
  rw[e2,h1,Zg];lia
noncomputable def bW(cs:List Pt):List Pt:=if 0<area cs then cs else cs.reverse
noncomputable def dO(cs:List Pt):Int:=if area cs<0 then-area cs else area cs
end FF
namespace FD
open PySem L2 FF
noncomputable abbrev mO:Stmt:=top 48
noncomputable def B1(cs:List Pt)(us:List Tri):Prop:=(∀t∈us,t2 t=1)/\(us.length:Int)=dO cs/\∀F,oa F->bB F us=cyc F (bW cs)
noncomputable def ux(cW:Addr):Sp:=fun vs H Q E=>∃l rf cs ts,vs=[.ref l]/\PLs H l rf cs/\aJ cs/\aF cs/\area cs≠0/\bM (bW cs) ts/\fm (bW cs)/\(60<dO cs->∀H',au H H'->E (.ref cW) none H')/\
 (dO cs<=60->∀r as us H',au H H'->H r=none->H' r=some (.lst (as.map V.ref))->TAs H' as us->B1 cs us->Q (.ref r) H')
theorem CA{t:Tri}(h:aJ (t3 t)):∀p∈t3 t,Co p:=fun p hp=>by
 obtain⟨k,hk,e⟩:=Yv hp
 have:=h k hk
 rwa [show at' (t3 t) k=p by rw[<-e,bb,Z0,Z2 hk];rfl]at this
theorem eN{cs:List Pt}(h:∀p∈cs,Co p):aJ cs:=fun i hi=>h _ (b7 hi)
theorem nV{cs:List Pt}(h:aJ cs){p:Pt}(hp:p∈cs):Co p:=by
 obtain⟨k,hk,e⟩:=Yv hp
 have:=h k hk
 rwa [show at' cs k=p by rw[<-e,bb,Z0,Z2 hk];rfl]at this
theorem AK{t:Tri}{p:Pt}(h:2<=t2 t)(w:Wp t p)(c:aJ (t3 t)):Co p:=by
 have k:=rq h w;exact z_ (B:=10^40) (by unfold t2 at h;lia) k (c30 c) (c31 c) (c32 c)
theorem viaA{G:Prop}{J Pm:Addr->Hp->Prop}(main:(∀x m,Pm x m->J x m)->G)(af:∀x m,Pm x m->J x m):G:=main af
theorem xB(cs:List Pt):area cs.reverse=- area cs:=iF cs
section
variable{P:Zv}{w:Zl}{K:Z3}{mg:Str->Option Value}{base:ZF}{f:Addr}{fd:Zf}{cE cW:Addr}{tk:Tok}
theorem jz:aD ["corners","waiting","least","triangle"] ["corners"] (aq mO):=.mk'
theorem zF(F:Fun K "least_triangles" "least_triangles" mO f fd)(cC:Cal P w K mg base 5 "corner_triangles" ["corners"] u7)(cA:Cal P w K mg base 7 "double_area" ["corners"] kW)(cD:Cal P w K mg base 2 "doubled_area" ["triangle"] k7)(cG:Cal P w K mg base 7 "goes_left" ["corners"] se)(cP:Cal P w K mg base 3 "point_within" ["triangle"] AI)(cS:Cal P w K mg base 3 "split_at" ["triangle","point"] uD)
  (E5:mg "len" = none)(E9:mg "list" = none)(E8:mg "reversed" = none)(ER:mg "WIDEST" = some (.int 60 tk))(m_W:mg "TooWide" = some (.ref cW))(O:oQ base cW (.ref cE::iJ) iJ "ValueError.__new__"):aI P w K mg base (CX1 P w base) 8 f fd ["corners"] (ux cW):=by
 refine F.okX jz (by rintro _ _ _ _⟨_,_,_,_,rfl,_⟩;rfl) fun E3 A outer s H vs Q E hr h=>?_
 obtain⟨l,rf,cs,ts,rfl,hp,co,fe,a0,hc,dist,qE,q⟩:=h;refine⟨_,am (aZ (aQ gX (ay cA hr (pa1 (pv 0))) (io (v:=.int 60) rfl ER ⟨_,rfl⟩)) (ap (jP rfl rfl m_W O jg (pa1 b6))) aL)
  (PSs.nox (am (aE (i:=1) jz.nd (ay cC hr (pa1 (lR (c7 (ay cG hr (pa1 (pv 0)))) (pv 0) (fi (ic rfl rfl E9 rfl E8 (pa1 (pv 0))) kN)))))
  (am (aE (i:=2) jz.nd (bK iI))
  (am (lS Yb (aQ gX (aN aW rfl E5 ZJ (pa1 (pv 1))) ad) (am (aE (i:=3) jz.nd (xl Y3 Wj Wi yg (pv 1)))
   (ap (aZ (aQ be (ay cD hr (pa1 (pv 3))) ad) (ap (aV (i5 Y3 Xh Xg iV (pv 2) (pa1 (pv 3))))) (ap (aV (i5 Y3 PySem.F.slot_list_extend PySem.F.type_list_extend yi (pv 1) (pa1 (ay cS hr (pa2 (pv 3) (ay cP hr (pa1 (pv 3)))))))))))))
  (ap (aC (pv 2))))))),?_⟩
 refine⟨_,rfl,l,rf,cs,rfl,hp,co,fe,fun H1 s1=>⟨_,_,rfl,rfl,_,rfl,?_⟩⟩;have eA:(if area cs<0 then-area cs else area cs)=dO cs:=rfl
 rw[eA];refine aU (fun c=>⟨by decide,qE (Zx c) _ s1⟩) (fun c=>⟨[_,_,_,_],rfl,?_⟩)
 have a60:dO cs<=60:=by
  have:¬((60:Int)<dO cs):=fun z=>c (Zt z)
  lia
 have q:=q a60;clear qE;have hp1:=hp.mono s1;have FJ:=fe.hi;have n3:=fe.lo;have coL:aJ (bW cs):=by
  unfold bW
  split
  ·exact co
  ·exact eN fun p hp=>nV co (Wb.mp hp)
 have nL:(bW cs).length=cs.length:=by
  unfold bW
  split
  ·rfl
  ·exact Ze
 have arL:area (bW cs)=dO cs:=by
  unfold bW dO
  split
  ·split<;>lia
  ·rw[xB];split<;>lia
 have sumL:∀F,oa F->bB F ts=cyc F (bW cs):=fun F A=>(hc.sum A.anti dist).symm;have pos:=hc.pos;have memT:∀t∈ts,aJ (t3 t):=fun t ht=>by
  obtain⟨m1,m2,m3⟩:=hc.mem t ht;exact co3 (nV coL m1) (nV coL m2) (nV coL m3)
 refine⟨_,rfl,l,rf,cs,rfl,hp1,co,fe,fun H2 s2=>⟨_,rfl,?_⟩⟩;have hp2:=hp1.mono s2;apply viaA (Pm:=fun r3 H3=>au H2 H3/\∃rf3,PLs H3 r3 rf3 (bW cs))
 ·intro af;refine aU (fun c=>?_) (fun c=>?_);rotate_left
  ·refine⟨l,rf,cs,rfl,hp2,fun l3 rg3 H3 s3 p3=>af l3 H3 ⟨s3,rg3,?_⟩⟩;unfold bW;rw[if_neg (fun z=>c (Zt z))];exact p3
  ·refine⟨_,rfl,af l H2 ⟨au.refl _,rf,?_⟩⟩;unfold bW;rw[if_pos (Zx c)];exact hp2
 rintro r3 H3 ⟨s3,rf3,hp3⟩;have sH3:=s1.trans (s2.trans s3);refine⟨r3,rf3,bW cs,ts,rfl,hp3,coL,by lia,hc,fun r as H4 s4 nr hr4 hT4 neR lA=>⟨[_,_,_,_],rfl,?_⟩⟩
 refine⟨aS (show 0<=1000 by decide),fun le hle=>⟨[_,_,_,_],rfl,?_⟩⟩
 have s5:=ao hle (.lst []);have hl5:(upd H4 le (.lst [])) le=some (.lst (([]:List Addr).map V.ref)):=aj;have hr5:=s5 _ _ hr4;have hT5:=hT4.mono s5;have nrl:r≠le:=fun e=>by rw[<-e,hr4]at hle;cases hle
 have nal:∀a∈as,a≠le:=fun a ha e=>by
  obtain⟨xs,h⟩:=hT4.there a ha;rw[e,hle]at h;cases h
 have n0r:H r=none:=eB sH3 nr;have n0l:H le=none:=eB (sH3.trans s4) hle;have sH5:=sH3.trans (s4.trans s5);generalize upd H4 le (.lst [])=H5 at *
 clear hle hr4 hT4 s4 s5 nr hp1 hp2 hp3 s1 s2 s3 sH3;refine⟨fun m σ H'=>∃as ts1 bs us x3,m=(mu ts1).toNat/\σ=[some (.ref l),some (.ref r),some (.ref le),x3]/\au H H'/\H' r=some (.lst (as.map V.ref))/\TAs H' as ts1/\(∀a∈as,a≠r/\a≠le)/\H' le=some (.lst (bs.map V.ref))/\TAs H' bs us/\(∀a∈bs,a≠r/\a≠le)/\
   (∀t∈ts1,0<t2 t/\aJ (t3 t))/\(∀t∈us,t2 t=1)/\∀F,oa F->bB F us+bB F ts1=cyc F (bW cs),
  ⟨_,as,ts,[],[],none,rfl,rfl,sH5,hr5,hT5,(fun a ha=>⟨neR a ha,nal a ha⟩),hl5,.nil,(fun a ha=>by cases ha),(fun t ht=>⟨pos t ht,memT t ht⟩),(fun t ht=>by cases ht),fun F A=>by rw[<-sumL F A];show 0+_=_;lia⟩,?_⟩
 clear hr5 hT5 neR nal hl5 sH5 lA;rintro m σ H6 ⟨as,ts1,bs,us,x3,rfl,rfl,s6,hr6,hT6,neA,hl6,hU6,neB,ok1,one,sums⟩;have bnd:bB cr us+bB cr ts1=dO cs:=by rw[sums cr Dt,yH,arL]
 have b1:=Aj one;have b2:=uO fun t ht=>(ok1 t ht).1;have lA:=hT6.len;have lB:=hU6.len;refine⟨_,rfl,r,_,rfl,.inl (SqL.of hr6),?_⟩;rw[Z6];refine⟨_,_,rfl,rfl,_,rfl,?_⟩;refine aU (fun c=>?_) (fun c=>⟨[_,_,_,_],rfl,?_⟩)
 ·have c0:0<as.length:=by have:=Zx c;lia
  refine⟨_,fun σ' H' z=>z,?_⟩;obtain⟨as',a,ts',t,rfl,rfl,Fw,hA⟩:=hT6.last c0;have e0:((as'++[a]).map V.ref)=as'.map V.ref++[V.ref a]:=by rw[ZU];rfl
  have nea:=neA a (by simp)
  have neA':∀b∈as',b≠r/\b≠le:=fun b hb=>neA b (by simp[hb])
  refine⟨_,rfl,.inl ⟨rfl,_,SqL.of hr6⟩,r,_,.ref a,rfl,rfl,hr6,by rw[e0];simp,⟨[_,_,_,_],rfl,?_⟩⟩
  have hr7:(L2.upd H6 r (.lst ((as'++[a]).map V.ref).dropLast)) r=some (.lst (as'.map V.ref)):=by rw[aj,e0,List.dropLast_concat]
  have hT7:TAs (L2.upd H6 r (.lst ((as'++[a]).map V.ref).dropLast)) as' ts':=Fw.upd (fun b hb=>(neA' b hb).1) hr6;have hA7:gC (L2.upd H6 r (.lst ((as'++[a]).map V.ref).dropLast)) a t:=hA.upd nea.1 hr6;have hl7:(L2.upd H6 r (.lst ((as'++[a]).map V.ref).dropLast)) le=some (.lst (bs.map V.ref)):=by rw[aG nrl.symm];exact hl6
  have hU7:TAs (L2.upd H6 r (.lst ((as'++[a]).map V.ref).dropLast)) bs us:=hU6.upd (fun b hb=>(neB b hb).1) hr6;have s7:au H (L2.upd H6 r (.lst ((as'++[a]).map V.ref).dropLast)):=FD.au.updN s6 n0r;generalize L2.upd H6 r (.lst ((as'++[a]).map V.ref).dropLast)=H7 at *
  clear hT6 hA Fw hr6 hl6 hU6 s6;obtain⟨tp,tco⟩:=ok1 t (by simp)
  have ok':∀t∈ts',0<t2 t/\aJ (t3 t):=fun u hu=>ok1 u (by simp[hu])
  obtain⟨rg,hA7⟩:=hA7;have m0:=pG fun u hu=>(ok' u hu).1;have m1:mu (ts'++[t])=mu ts'+(2*t2 t-1):=by rw[xD];show _+(2*t2 t-1+0)=_;lia
  have st:∀F,bB F (ts'++[t])=bB F ts'+tri F t:=fun F=>by rw[mi];show _+(tri F t+0)=_;lia
  have tt:tri cr t=t2 t:=k8 t;have b3:=uO fun u hu=>(ok' u hu).1;have t60:t2 t<=60:=by
   have:=st cr
   lia
  have lens:as'.length=ts'.length/\bs.length=us.length:=⟨by rw[Z5,Z5]at lA;simpa using lA,lB⟩
  have l60:as'.length+bs.length<=60:=by
   have:=st cr
   lia
  refine⟨_,rfl,a,rg,t,rfl,hA7,tco,rfl,_,rfl,?_⟩;have ed:decide (V.int (t2 t)=V.int 1)=decide (t2 t=1):=by rw[ZS];simp
  rw[ed];refine aU (fun c1=>?_) (fun c1=>?_)
  ·have t1:t2 t=1:=Zx c1;refine⟨_,rfl,.inl ⟨rfl,_,SqL.of hl7⟩,_,rfl,le,_,_,rfl,rfl,hl7,by rw[Z6];exact Nat.lt_of_lt_of_le (show bs.length<1000 by lia) (aS (Nat.le_refl 1000)),?_⟩
   refine⟨_,?_,as',ts',bs++[a],us++[t],_,rfl,rfl,FD.au.updN s7 n0l,by rw[aG nrl];exact hr7,hT7.upd (fun b hb=>(neA' b hb).2) hl7,neA',by rw[aj,ZU];rfl,(hU7.upd (fun b hb=>(neB b hb).2) hl7).app (.cons (gC.upd ⟨rg,hA7⟩ nea.2 hl7) .nil),(fun b hb=>?_),ok',(fun u hu=>?_),fun F A=>?_⟩
   ·rw[m1,t1];lia
   ·rcases ZE.mp hb with z|z
    ·exact neB b z
    ·rw[Zj.mp z];exact nea
   ·rcases ZE.mp hu with z|z
    ·exact one u z
    ·rw[Zj.mp z];exact t1
   ·have e:=sums F A;rw[st F]at e;rw[mi];show bB F us+(tri F t+0)+bB F ts'=_;lia
  ·have d2:2<=t2 t:=by
    have:t2 t≠1:=fun z=>c1 (Zt z)
    lia
   refine⟨_,rfl,.inl ⟨rfl,_,SqL.of hr7⟩,_,rfl,_,rfl,a,rg,t,rfl,hA7,tco,d2,by lia,fun p pt H8 s8 wp hpt=>?_⟩
   refine⟨a,rg,t,pt,p,rfl,hA7.mono s8,tco,hpt,AK d2 wp tco,fun rs ps H9 s9 nrs hrs hP9 fr=>?_⟩;have s89:=s8.trans s9;have hr9:=s89 _ _ hr7;have pl:=wA (t:=t) (p:=p);have pn:=hP9.len;have neP:∀b∈ps,b≠r/\b≠le:=fun b hb=>⟨(fun e=>by have:=fr b hb;rw[e,s8 _ _ hr7]at this;cases this),(fun e=>by have:=fr b hb;rw[e,s8 _ _ hl7]at this;cases this)⟩
   refine⟨r,rs,_,_,rfl,rfl,hr9,hrs,by rw[Z6,Z6];exact aS (show as'.length+ps.length<=1000 by lia),?_⟩
   have pm:=xT d2 wp;have pp:=pG (ts:=dU t p) nh;refine⟨_,?_,as'++ps,ts'++dU t p,bs,us,_,rfl,rfl,FD.au.updN (s7.trans s89) n0r,by rw[aj,ZU],((hT7.mono s89).app hP9).upd (fun b hb=>?_) hr9,(fun b hb=>?_),by rw[aG nrl.symm];exact s89 _ _ hl7,(hU7.mono s89).upd (fun b hb=>(neB b hb).1) hr9,neB,(fun u hu=>?_),one,fun F A=>?_⟩
   ·rw[m1,xD];lia
   ·rcases ZE.mp hb with z|z
    ·exact (neA' b z).1
    ·exact (neP b z).1
   ·rcases ZE.mp hb with z|z
    ·exact neA' b z
    ·exact neP b z
   ·rcases ZE.mp hu with z|z
    ·exact ok' u z
    ·refine⟨nh u z,eN fun x hx=>?_⟩;rcases vg u z x hx with e|e
     ·rw[e];exact AK d2 wp tco
     ·exact CA tco x e
   ·have e:=sums F A;rw[st F]at e;rw[mi,vi A d2 wp];lia
 ·have c0:as.length=0:=by
   have:¬((0:Int)<(as.length:Int)):=fun z=>c (Zt z)
   lia
  have e1:ts1=[]:=List.length_eq_zero_iff.mp (by lia)
  subst e1;refine⟨_,rfl,q le bs us H6 s6 n0l hl6 hU6 ⟨one,?_,fun F A=>?_⟩⟩
  ·have:bB cr []=0:=rfl
   lia
  ·have:=sums F A
   have z:bB F []=0:=rfl;lia
end
end FD
end
section
namespace L2
open PySem PySem.W PySem.Spec PyProof.Rows
section
variable{P:Zv}{w:Zl}{K:Z3}{mg:Str->Option Value}{base:ZF}{N:List Str}{qual:Str}{scope:XQ}{f:Addr}{cd:Value}{A:ZK}{outer:List Env}{s₀:Shared}{H₀:Hp}{E:XK}
theorem ye:jt (CX1 P w base) (fQ (CX1 P w base) P w K mg base N qual scope f cd A outer s₀ H₀ E) E:=by
 intro aa σ H s e s' I FY;obtain⟨ea,cls,a0,H',rfl,hos,hbare,un,hok,⟨B,hB,fl,hsub,htr⟩,EM,hH,hE⟩:=FY;have I1:Inv (fQ (CX1 P w base) P w K mg base N qual scope f cd A outer s₀ H₀ E) aa σ H' s':=I.call' (ch:=[]) hos un hok hbare (fun b hb=>absurd hb (by simp))
 have stk:s'.heap.FunFrames base (envOfC qual scope s₀.heap.objs.size f cd::outer):=I1.stack;have b0:Un (frs outer) [] H₀ H s₀.heap s.heap:=I.base;have ub:Un (frs outer) [] H₀ H' s₀.heap s'.heap:=I1.base;refine wpAny_leaves_onW (base:=B) (L:=s₀.heap.objs.size) I.ok.frames rfl fl fun h' fl' ups=>?_;have out:∀b o,s'.heap.get? b=some o->(∃o',B.get? b=some o')->h'.get? b=some o:=fun b o e hb=>by
  obtain⟨o',hb⟩:=hb
  have:=fl.1 b o' hb
  rw[e]at this;cases this;exact fl'.1 b o hb
 have Lfr:∀b o,s₀.heap.get? b=some o->b∉frs outer->b∉frs (envOfC qual scope s₀.heap.objs.size f cd::outer):=fun b o e hb hm=>by
  have hm:b∈s₀.heap.objs.size::frs outer:=hm;rcases Zz.mp hm with z|z
  ·exact absurd (Z_ e) (by rw[z];exact Nat.lt_irrefl _)
  ·exact hb z
 have inB:∀b o,s₀.heap.get? b=some o->b∉frs outer->∃o',B.get? b=some o':=fun b o e hb=>by
  obtain⟨o',h2⟩:=b0.there b o e (by simp)
  exact hsub b o' h2 (Lfr b o e hb)
 have slots:∀b o,s'.heap.get? b=some o->b∈frs (envOfC qual scope s₀.heap.objs.size f cd::outer)->∃sl,h'.get? b=some {o with slots:=sl}:=fun b o e hm=>by
  obtain⟨_,o',EB,nf⟩:=stk.mem hm;rw[e]at EB;cases EB;exact ups b o e nf
 refine⟨ea,cls,a0,H',rfl,I1.os,I1.bare,⟨fun b o eb n hb hx'=>?_,fun b o eb n hb hx'=>?_,ub.free,fun b o eb hx'=>?_,ub.tups,ub.frzs,ub.tbls⟩,fun a o ea=>?_,⟨B,hB,fl',inB,htr⟩,?_,hH,hE⟩
 ·exact out b o (ub.keep b o eb n hb hx') (inB b o eb hb)
 ·obtain⟨sl,h2⟩:=ub.slot b o eb n hb hx';obtain⟨sl',h3⟩:=slots b _ h2 (Zo _ hb);exact⟨sl',h3⟩
 ·obtain⟨o',h2⟩:=ub.there b o eb hx';by_cases hb:b∈frs outer
  ·obtain⟨sl,h3⟩:=slots b o' h2 (Zo _ hb);exact⟨_,h3⟩
  ·exact⟨_,out b o' h2 (inB b o eb hb)⟩
 ·refine (hok a o ea).stay (fun b u hb eb=>out b u eb ?_) (fun _ z=>z) fun _ _ z=>z;rcases hb with z|z
  ·rw[z];exact htr a o ea
  ·exact htr b _ z
 ·cases z:s₀.heap.get? ea with
  |none=>rfl
  |some o=>
   obtain⟨o',h2⟩:=b0.there ea o z (by simp)
   rw[EM]at h2;cases h2
theorem bh{j k:Nat}{x:Str}{ps:List Str}{sp:Sp}{p pos:Pos}{e:ZN}{es:List ZN}{t:TA}(C:cq P w K mg base j x ps sp)(hr:dJ k (A.deeper (envOfC qual scope s₀.heap.objs.size f cd)))(hj:j<=k)(hg:Gl (fQ (CX1 P w base) P w K mg base N qual scope f cd A outer s₀ H₀ E) x)(ha:PA (fQ (CX1 P w base) P w K mg base N qual scope f cd A outer s₀ H₀ E) (e::es) t)
  (EL:(x==("__debug__" : Str))=false:=by decide)(he:Zp (e::es) (envOfC qual scope s₀.heap.objs.size f cd)=(false,eval e (envOfC qual scope s₀.heap.objs.size f cd))::Zp es (envOfC qual scope s₀.heap.objs.size f cd):=by rfl)(EC:(backTo pos (Zp es (envOfC qual scope s₀.heap.objs.size f cd))).any (·.1)=false:=by rfl):
  PE (fQ (CX1 P w base) P w K mg base N qual scope f cd A outer s₀ H₀ E) (.Call (.Name x p) (e::es) [] pos) (jK sp [] E t):=by
 obtain⟨f',fd',F',b',k',m'⟩:=C.ex;exact uW F' (hr.mono hj) hg m' k' b' .nil ye ha EL he EC
end
section
variable{P:Zv}{w:Zl}{K:Z3}{mg:Str->Option Value}{base:ZF}{k:Nat}{f:Addr}{fd:Zf}{ps:List Str}{sp G5:Sp}
theorem aI.toX(F:aI P w K mg base CX0 k f fd ps sp):aI P w K mg base (CX1 P w base) k f fd ps sp:=
 ⟨F.len,fun A outer s H args us vs Q E hr he hb hv hs=>X_ (F.run A outer s H args us vs Q E hr he hb hv hs) fun r s' z=>by
  cases r with
  |ok f=>cases f<;>exact z
  |error e=>exact (show False from z).elim⟩
theorem aI.or{CX:CXT}(F:aI P w K mg base CX k f fd ps sp)(G:aI P w K mg base CX k f fd ps G5):aI P w K mg base CX k f fd ps (fun vs H Q E=>sp vs H Q E\/G5 vs H Q E):=
 ⟨fun vs H Q E h=>h.elim (F.len vs H Q E) (G.len vs H Q E),fun A outer s H args us vs Q E hr he hb hv hs=>hs.elim (F.run A outer s H args us vs Q E hr he hb hv) (G.run A outer s H args us vs Q E hr he hb hv)⟩
theorem jV{X:Cx}{e:ZN}:PE X e (fun _ _ _=>False):=fun _ _ _ _ _ _ h=>h.elim
end
end L2
end
section
namespace FD
open PySem L2 FF
noncomputable abbrev mK:Stmt:=top 20
noncomputable def spNF(c:Addr):Sp:=fun vs H _ E=>∃l rf cs us,vs=.ref l::us/\PLs H l rf cs/\aJ cs/\cs.length<=400/\¬aF cs/\∀H',au H H'->E (.ref c) none H'
noncomputable def bV(n:Nat)(c:Addr):Sp:=fun vs H Q E=>vs.length=n/\spNF c vs H Q E
noncomputable def fT(c:Addr):Sp:=fun vs H Q E=>∃l rf cs,vs=[.ref l]/\PLs H l rf cs/\aJ cs/\cs.length<=400/\(aF cs->∀H',au H H'->Q .non H')/\(¬aF cs->∀H',au H H'->E (.ref c) none H')
section
variable{P:Zv}{w:Zl}{K:Z3}{mg:Str->Option Value}{base:ZF}{f:Addr}{fd:Zf}{cE cF:Addr}{tk:Tok}
theorem wB(F:Fun K "refuse_no_fence" "refuse_no_fence" la f fd)(cI:Cal P w K mg base 5 "is_fence" ["corners"] ox)(m_F:mg "NoFence" = some (.ref cF))(O:oQ base cF (.ref cE::iJ) iJ "ValueError.__new__"):aI P w K mg base (CX1 P w base) 6 f fd ["corners"] (fT cF):=by
 refine F.okX rE (by rintro _ _ _ _⟨l,rf,cs,rfl,_⟩;rfl) fun E3 A outer s H vs Q E hr h=>?_
 obtain⟨l,rf,cs,rfl,hp,co,n4,q,qE⟩:=h;refine⟨_,ap (aZ (jw (c7 (ay cI hr (pa1 (pv 0))))) (ap (jP rfl rfl m_F O jg (pa1 b6))) aL),?_⟩
 refine⟨_,rfl,l,rf,cs,rfl,hp,co,n4,fun b H' sH hb=>⟨_,rfl,?_⟩⟩;cases b with
 |true=>exact fk (q (hb.mp rfl) H' sH)
 |false=>exact c9 ⟨by decide,qE (fun z=>ZM (hb.mpr z)) H' sH⟩
theorem uQ:aD ["corners","point"] ["corners","point"] (aq mK):=.mk'
theorem rn(F:Fun K "where" "where" mK f fd)(cR:Cal P w K mg base 6 "refuse_no_fence" ["corners"] eQ)(cO:Cal P w K mg base 3 "place_of" ["corners","point"] jx):aI P w K mg base CX0 7 f fd ["corners","point"] jx:=by
 refine F.ok uQ (by rintro _ _ _ _⟨l,pt,rf,cs,p,rfl,_⟩;rfl) fun E3 A outer s H vs Q E hr h=>?_
 obtain⟨l,pt,rf,cs,p,rfl,hp,co,fe,hpt,cp,q⟩:=h;refine⟨_,am (aV (ay cR hr (pa1 (pv 0)))) (ap (aC (ay cO hr (pa2 (pv 0) (pv 1))))),?_⟩
 refine⟨_,rfl,l,rf,cs,rfl,hp,co,fe,fun H1 s1=>⟨[_,_],rfl,?_⟩⟩;exact⟨_,rfl,_,rfl,l,pt,rf,cs,p,rfl,hp.mono s1,co,fe,s1 _ _ hpt,cp,fun H2 s2=>q H2 (s1.trans s2)⟩
theorem uS(F:Fun K "double_area" "double_area" qA f fd)(cR:cq P w K mg base 6 "refuse_no_fence" ["corners"] (fT cF)):aI P w K mg base (CX1 P w base) 7 f fd ["corners"] (bV 1 cF):=by
 refine F.okX xj (fun vs H Q E h=>h.1) (fun E3 A outer s H vs Q E hr h=>?_);obtain⟨hl,l,rf,cs,us,rfl,hp,co,n4,nf,qE⟩:=h;refine⟨_,am (aV (bh cR hr (by decide) rfl (pa1 (pv 0)))) bO,?_⟩
 exact⟨_,rfl,l,rf,cs,rfl,hp,co,n4,(fun z=>absurd z nf),fun _=>qE⟩
theorem Ce(F:Fun K "goes_left" "goes_left" qk f fd)(cR:cq P w K mg base 6 "refuse_no_fence" ["corners"] (fT cF)):aI P w K mg base (CX1 P w base) 7 f fd ["corners"] (bV 1 cF):=by
 refine F.okX wT (fun vs H Q E h=>h.1) (fun E3 A outer s H vs Q E hr h=>?_);obtain⟨hl,l,rf,cs,us,rfl,hp,co,n4,nf,qE⟩:=h;refine⟨_,am (aV (bh cR hr (by decide) rfl (pa1 (pv 0)))) bO,?_⟩
 exact⟨_,rfl,l,rf,cs,rfl,hp,co,n4,(fun z=>absurd z nf),fun _=>qE⟩
theorem zu(F:Fun K "where" "where" mK f fd)(cR:cq P w K mg base 6 "refuse_no_fence" ["corners"] (fT cF)):aI P w K mg base (CX1 P w base) 7 f fd ["corners","point"] (bV 2 cF):=by
 refine F.okX uQ (fun vs H Q E h=>h.1) (fun E3 A outer s H vs Q E hr h=>?_);obtain⟨hl,l,rf,cs,us,rfl,hp,co,n4,nf,qE⟩:=h;refine⟨_,am (aV (bh cR hr (by decide) rfl (pa1 (pv 0)))) bO,?_⟩
 exact⟨_,rfl,l,rf,cs,rfl,hp,co,n4,(fun z=>absurd z nf),fun _=>qE⟩
theorem Cs(F:Fun K "rim" "rim" rJ f fd)(cR:cq P w K mg base 6 "refuse_no_fence" ["corners"] (fT cF)):aI P w K mg base (CX1 P w base) 7 f fd ["corners"] (bV 1 cF):=by
 refine F.okX AE (fun vs H Q E h=>h.1) (fun E3 A outer s H vs Q E hr h=>?_);obtain⟨hl,l,rf,cs,us,rfl,hp,co,n4,nf,qE⟩:=h;refine⟨_,am (aV (bh cR hr (by decide) rfl (pa1 (pv 0)))) bO,?_⟩
 exact⟨_,rfl,l,rf,cs,rfl,hp,co,n4,(fun z=>absurd z nf),fun _=>qE⟩
theorem A4(F:Fun K "row_counts" "row_counts" gz f fd)(cR:cq P w K mg base 6 "refuse_no_fence" ["corners"] (fT cF)):aI P w K mg base (CX1 P w base) 7 f fd ["corners","y"] (bV 2 cF):=by
 refine F.okX ff (fun vs H Q E h=>h.1) (fun E3 A outer s H vs Q E hr h=>?_);obtain⟨hl,l,rf,cs,us,rfl,hp,co,n4,nf,qE⟩:=h;refine⟨_,am (aV (bh cR hr (by decide) rfl (pa1 (pv 0)))) bO,?_⟩
 exact⟨_,rfl,l,rf,cs,rfl,hp,co,n4,(fun z=>absurd z nf),fun _=>qE⟩
theorem Cz(F:Fun K "greater" "greater" iC f fd)(cR:cq P w K mg base 6 "refuse_no_fence" ["corners"] (fT cF)):aI P w K mg base (CX1 P w base) 7 f fd ["corners","k"] (bV 2 cF):=by
 refine F.okX pr (fun vs H Q E h=>h.1) (fun E3 A outer s H vs Q E hr h=>?_);obtain⟨hl,l,rf,cs,us,rfl,hp,co,n4,nf,qE⟩:=h;refine⟨_,am (aV (bh cR hr (by decide) rfl (pa1 (pv 0)))) bO,?_⟩
 exact⟨_,rfl,l,rf,cs,rfl,hp,co,n4,(fun z=>absurd z nf),fun _=>qE⟩
theorem DL(F:Fun K "turned" "turned" jQ f fd)(cR:cq P w K mg base 6 "refuse_no_fence" ["corners"] (fT cF)):aI P w K mg base (CX1 P w base) 7 f fd ["corners","turning"] (bV 2 cF):=by
 refine F.okX ph (fun vs H Q E h=>h.1) (fun E3 A outer s H vs Q E hr h=>?_);obtain⟨hl,l,rf,cs,us,rfl,hp,co,n4,nf,qE⟩:=h;refine⟨_,am (aV (bh cR hr (by decide) rfl (pa1 (pv 0)))) bO,?_⟩
 exact⟨_,rfl,l,rf,cs,rfl,hp,co,n4,(fun z=>absurd z nf),fun _=>qE⟩
theorem yt(F:Fun K "inside" "inside" lp f fd)(cA:cq P w K mg base 7 "double_area" ["corners"] (bV 1 cF)):aI P w K mg base (CX1 P w base) 8 f fd ["corners"] (bV 1 cF):=by
 refine F.okX sM (fun vs H Q E h=>h.1) (fun E3 A outer s H vs Q E hr h=>?_);obtain⟨hl,l,rf,cs,us,rfl,hp,co,n4,nf,qE⟩:=h;refine⟨_,ap (aC (ai gy (ai bf (ai a_ (bh cA hr (by decide) rfl (pa1 (pv 0))) jV) jV) jV)),?_⟩
 exact⟨_,rfl,rfl,l,rf,cs,[],rfl,hp,co,n4,nf,qE⟩
theorem Ej(F:Fun K "greater_counts" "greater_counts" sGC f fd)(cA:cq P w K mg base 7 "double_area" ["corners"] (bV 1 cF)):aI P w K mg base (CX1 P w base) 8 f fd ["corners","k"] (fun vs H Q E=>bV 2 cF vs H Q E/\∃l,vs=[.ref l,.int 2]):=by
 refine F.okX sO (fun vs H Q E h=>h.1.1) (fun E3 A outer s H vs Q E hr h=>?_);obtain⟨⟨hl,l,rf,cs,us,e1,hp,co,n4,nf,qE⟩,l',rfl⟩:=h;cases e1;refine⟨_,am (aE (i:=2) sO.nd (ai a8 (ai a8 (pv 1) (pv 1)) (bh cA hr (by decide) rfl (pa1 (pv 0))))) bO,?_⟩
 exact⟨_,rfl,_,rfl,_,_,rfl,rfl,⟨bv (by decide) (by decide),bv (by decide) (by decide)⟩,_,rfl,rfl,l,rf,cs,[],rfl,hp,co,n4,nf,qE⟩
theorem wN(F:Fun K "alike" "alike" kX f fd)(cR:cq P w K mg base 6 "refuse_no_fence" ["corners"] (fT cF)):aI P w K mg base (CX1 P w base) 7 f fd ["one","other"] (bV 2 cF):=by
 refine F.okX ir (fun vs H Q E h=>h.1) (fun E3 A outer s H vs Q E hr h=>?_);obtain⟨hl,l,rf,cs,us,rfl,hp,co,n4,nf,qE⟩:=h;refine⟨_,am (aV (bh cR hr (by decide) rfl (pa1 (pv 0)))) bO,?_⟩
 exact⟨_,rfl,l,rf,cs,rfl,hp,co,n4,(fun z=>absurd z nf),fun _=>qE⟩
noncomputable def AM(c:Addr):Sp:=fun vs H _ E=>∃g rg ds l rf cs,vs=[.ref g,.ref l]/\PLs H g rg ds/\aJ ds/\aF ds/\PLs H l rf cs/\aJ cs/\cs.length<=400/\¬aF cs/\∀H',au H H'->E (.ref c) none H'
theorem w5(F:Fun K "alike" "alike" kX f fd)(cR:cq P w K mg base 6 "refuse_no_fence" ["corners"] (fT cF)):aI P w K mg base (CX1 P w base) 7 f fd ["one","other"] (AM cF):=by
 refine F.okX ir (by rintro _ _ _ _⟨_,_,_,_,_,_,rfl,_⟩;rfl) fun E3 A outer s H vs Q E hr h=>?_
 obtain⟨g,rg,ds,l,rf,cs,rfl,hg,cog,fg,hp,co,n4,nf,qE⟩:=h;refine⟨_,am (aV (bh cR hr (by decide) rfl (pa1 (pv 0)))) (am (aV (bh cR hr (by decide) rfl (pa1 (pv 1)))) bO),?_⟩
 refine⟨_,rfl,g,rg,ds,rfl,hg,cog,by have:=fg.hi;lia,(fun _ H1 s1=>⟨[_,_,_,_,_],rfl,?_⟩),fun z=>absurd fg z⟩
 exact⟨_,rfl,l,rf,cs,rfl,hp.mono s1,co,n4,(fun z=>absurd z nf),fun _ H2 s2=>qE H2 (s1.trans s2)⟩
theorem Ab(F:Fun K "least_triangles" "least_triangles" mO f fd)(cA:cq P w K mg base 7 "double_area" ["corners"] (bV 1 cF)):aI P w K mg base (CX1 P w base) 8 f fd ["corners"] (bV 1 cF):=by
 refine F.okX jz (fun vs H Q E h=>h.1) (fun E3 A outer s H vs Q E hr h=>?_);obtain⟨hl,l,rf,cs,us,rfl,hp,co,n4,nf,qE⟩:=h;refine⟨_,am (aZ (aQ gX (bh cA hr (by decide) rfl (pa1 (pv 0))) jV) bO bO) bO,?_⟩
 exact⟨_,rfl,rfl,l,rf,cs,[],rfl,hp,co,n4,nf,qE⟩
end
end FD
end
section
namespace FD
open PySem L2 FF
noncomputable abbrev n6:Stmt:=top 66
theorem g_{G:Prop}{J Pm:Hp->Prop}(main:(∀m,Pm m->J m)->G)(af:∀m,Pm m->J m):G:=main af
noncomputable def OKK(k:Nat)(cs:List Pt)(T:Tn):Prop:=aF cs/\¬(k=10/\isT T=false)/\¬(k=11/\60<dO cs)
noncomputable def Refs(cF cT cW:Addr)(k:Nat)(cs:List Pt)(T:Tn)(R:Addr->Prop):Prop:=(¬aF cs->R cF)/\(aF cs->k=10->isT T=false->R cT)/\(aF cs->k=11->60<dO cs->R cW)
noncomputable def rF(cF cT cW:Addr):Sp:=fun vs H Q E=>∃(k:Nat) (l:Addr) (rf:Nat->Addr) (cs:List Pt) (g:Addr) (rg:Nat->Addr) (gs:List Pt) (tu:Addr) (T:Tn) (ts:List Tri),vs=[.int k,.ref l,.ref g,.ref tu]/\k<12/\PLs H l rf cs/\aJ cs/\cs.length<=400/\PLs H g rg gs/\aJ gs/\aF gs/\TnA H tu T/\i9 T/\
 (aF cs->area cs≠0/\bM (bW cs) ts/\fm (bW cs))/\Refs cF cT cW k cs T (fun c=>∀H',au H H'->E (.ref c) none H')/\(OKK k cs T->∀H',au H H'->Q .non H')
section
variable{P:Zv}{w:Zl}{K:Z3}{mg:Str->Option Value}{base:ZF}{f:Addr}{fd:Zf}{cF cT cW:Addr}
theorem zD:aD ["which","corners","good","six"] ["which","corners","good","six"] (aq n6):=.mk'
set_option maxHeartbeats 2000000 in
theorem yw(F:Fun K "_law_called" "_law_called" n6 f fd)(E1:cq P w K mg base 7 "double_area" ["corners"] (fun vs H Q E=>(kW) vs H Q E\/(bV 1 cF) vs H Q E))(Ez:cq P w K mg base 7 "goes_left" ["corners"] (fun vs H Q E=>(se) vs H Q E\/(bV 1 cF) vs H Q E))(Fi:cq P w K mg base 7 "where" ["corners","point"] (fun vs H Q E=>(jx) vs H Q E\/(bV 2 cF) vs H Q E))(ED:cq P w K mg base 7 "rim" ["corners"] (fun vs H Q E=>(qw) vs H Q E\/(bV 1 cF) vs H Q E))(F6:cq P w K mg base 8 "inside" ["corners"] (fun vs H Q E=>(qL) vs H Q E\/(bV 1 cF) vs H Q E))(EH:cq P w K mg base 7 "row_counts" ["corners","y"] (fun vs H Q E=>(lI) vs H Q E\/(bV 2 cF) vs H Q E))(ET:cq P w K mg base 7 "greater" ["corners","k"] (fun vs H Q E=>(pT) vs H Q E\/(bV 2 cF) vs H Q E))(Ey:cq P w K mg base 8 "greater_counts" ["corners","k"] (fun vs H Q E=>(Dj) vs H Q E\/(fun vs H Q E=>bV 2 cF vs H Q E/\∃l,vs=[.ref l,.int 2]) vs H Q E))(EY:cq P w K mg base 7 "alike" ["one","other"] (fun vs H Q E=>(uC) vs H Q E\/(fun vs H Q E=>bV 2 cF vs H Q E\/AM cF vs H Q E) vs H Q E))(c_turned:cq P w K mg base 7 "turned" ["corners","turning"] (fun vs H Q E=>(o6 cT) vs H Q E\/(bV 2 cF) vs H Q E))(c_least_triangles:cq P w K mg base 8 "least_triangles" ["corners"] (fun vs H Q E=>(ux cW) vs H Q E\/(bV 1 cF) vs H Q E)):aI P w K mg base (CX1 P w base) 9 f fd ["which","corners","good","six"] (rF cF cT cW):=by
 refine F.okX zD (by rintro _ _ _ _⟨_,_,_,_,_,_,_,_,_,_,rfl,_⟩;rfl) fun E3 A outer s H vs Q E hr h=>?_
 obtain⟨k,l,rf,cs,g,rg,gs,tu,T,ts,rfl,k12,hp,co,n4,hg,cog,fg,hT,bT,hF0,⟨qF,qT,qW⟩,q⟩:=h;refine⟨_,(am (aZ (aQ be (pv 0) ad) (ap (aV (bh E1 hr (by decide) rfl (pa1 (pv 1))))) aL)
  (am (aZ (aQ be (pv 0) ad) (ap (aV (bh Ez hr (by decide) rfl (pa1 (pv 1))))) aL)
  (am (aZ (aQ be (pv 0) ad) (ap (aV (bh Fi hr (by decide) rfl (pa2 (pv 1) (dW (pa2 ad ad)))))) aL)
  (am (aZ (aQ be (pv 0) ad) (ap (aV (bh ED hr (by decide) rfl (pa1 (pv 1))))) aL)
  (am (aZ (aQ be (pv 0) ad) (ap (aV (bh F6 hr (by decide) rfl (pa1 (pv 1))))) aL)
  (am (aZ (aQ be (pv 0) ad) (ap (aV (bh EH hr (by decide) rfl (pa2 (pv 1) ad)))) aL)
  (am (aZ (aQ be (pv 0) ad) (ap (aV (bh ET hr (by decide) rfl (pa2 (pv 1) ad)))) aL)
  (am (aZ (aQ be (pv 0) ad) (ap (aV (bh Ey hr (by decide) rfl (pa2 (pv 1) ad)))) aL)
  (am (aZ (aQ be (pv 0) ad) (ap (aV (bh EY hr (by decide) rfl (pa2 (pv 1) (pv 2))))) aL)
  (am (aZ (aQ be (pv 0) ad) (ap (aV (bh EY hr (by decide) rfl (pa2 (pv 2) (pv 1))))) aL)
  (am (aZ (aQ be (pv 0) ad) (ap (aV (bh c_turned hr (by decide) rfl (pa2 (pv 1) (pv 3))))) aL)
  (ap (aZ (aQ be (pv 0) ad) (ap (aV (bh c_least_triangles hr (by decide) rfl (pa1 (pv 1))))) aL))))))))))))),?_⟩
 have hF:(aF cs/\area cs≠0/\bM (bW cs) ts/\fm (bW cs))\/¬aF cs:=(Classical.em (aF cs)).imp (fun z=>⟨z,hF0 z⟩) id;have sj:=au.refl H;have oj:k<0->OKK k cs T:=fun z=>absurd z (by lia)
 apply g_ (Pm:=fun Hx=>au H Hx/\(k<1->OKK k cs T))
 ·intro af;refine⟨_,rfl,rfl,_,rfl,?_⟩;refine aU (fun c=>?_) (fun c=>?_)
  ·have kj:k=0:=by have:=Zx c;injection this with e;lia
   rcases hF with ⟨fe,a0,hc,di⟩|nf
   ·exact⟨_,rfl,.inl ⟨l,rf,cs,rfl,hp.mono sj,co,fe,fun Hx sx=>af Hx ⟨sj.trans sx,fun _=>⟨fe,fun z=>absurd z.1 (by lia),fun z=>absurd z.1 (by lia)⟩⟩⟩⟩
   ·exact⟨_,rfl,.inr ⟨rfl,l,rf,cs,[],rfl,hp.mono sj,co,n4,nf,fun Hx sx=>qF nf Hx (sj.trans sx)⟩⟩
  ·have kj:k≠0:=fun e=>by subst e;exact c (Zt rfl)
   exact af H ⟨sj,fun lt=>oj (by lia)⟩
 clear oj sj;rintro Hj ⟨sj,oj⟩;refine⟨[_,_,_,_],rfl,?_⟩;apply g_ (Pm:=fun Hx=>au H Hx/\(k<2->OKK k cs T))
 ·intro af;refine⟨_,rfl,rfl,_,rfl,?_⟩;refine aU (fun c=>?_) (fun c=>?_)
  ·have kj:k=1:=by have:=Zx c;injection this with e;lia
   rcases hF with ⟨fe,a0,hc,di⟩|nf
   ·exact⟨_,rfl,.inl ⟨l,rf,cs,rfl,hp.mono sj,co,fe,fun Hx sx=>af Hx ⟨sj.trans sx,fun _=>⟨fe,fun z=>absurd z.1 (by lia),fun z=>absurd z.1 (by lia)⟩⟩⟩⟩
   ·exact⟨_,rfl,.inr ⟨rfl,l,rf,cs,[],rfl,hp.mono sj,co,n4,nf,fun Hx sx=>qF nf Hx (sj.trans sx)⟩⟩
  ·have kj:k≠1:=fun e=>by subst e;exact c (Zt rfl)
   exact af Hj ⟨sj,fun lt=>oj (by lia)⟩
 clear oj sj;rintro Hj ⟨sj,oj⟩;refine⟨[_,_,_,_],rfl,?_⟩;apply g_ (Pm:=fun Hx=>au H Hx/\(k<3->OKK k cs T))
 ·intro af;refine⟨_,rfl,rfl,_,rfl,?_⟩;refine aU (fun c=>?_) (fun c=>?_)
  ·have kj:k=2:=by have:=Zx c;injection this with e;lia
   rcases hF with ⟨fe,a0,hc,di⟩|nf
   ·exact⟨_,rfl,_,_,rfl,fun pt Hp sp hpt=>.inl ⟨l,pt,rf,cs,_,rfl,(hp.mono sj).mono sp,co,fe,hpt,⟨⟨by decide,by decide⟩,by decide,by decide⟩,fun Hx sx=>af Hx ⟨sj.trans (sp.trans sx),fun _=>⟨fe,fun z=>absurd z.1 (by lia),fun z=>absurd z.1 (by lia)⟩⟩⟩⟩
   ·exact⟨_,rfl,_,_,rfl,fun pt Hp sp hpt=>.inr ⟨rfl,l,rf,cs,[_],rfl,(hp.mono sj).mono sp,co,n4,nf,fun Hx sx=>qF nf Hx (sj.trans (sp.trans sx))⟩⟩
  ·have kj:k≠2:=fun e=>by subst e;exact c (Zt rfl)
   exact af Hj ⟨sj,fun lt=>oj (by lia)⟩
 clear oj sj;rintro Hj ⟨sj,oj⟩;refine⟨[_,_,_,_],rfl,?_⟩;apply g_ (Pm:=fun Hx=>au H Hx/\(k<4->OKK k cs T))
 ·intro af;refine⟨_,rfl,rfl,_,rfl,?_⟩;refine aU (fun c=>?_) (fun c=>?_)
  ·have kj:k=3:=by have:=Zx c;injection this with e;lia
   rcases hF with ⟨fe,a0,hc,di⟩|nf
   ·exact⟨_,rfl,.inl ⟨l,rf,cs,rfl,hp.mono sj,co,fe,fun Hx sx=>af Hx ⟨sj.trans sx,fun _=>⟨fe,fun z=>absurd z.1 (by lia),fun z=>absurd z.1 (by lia)⟩⟩⟩⟩
   ·exact⟨_,rfl,.inr ⟨rfl,l,rf,cs,[],rfl,hp.mono sj,co,n4,nf,fun Hx sx=>qF nf Hx (sj.trans sx)⟩⟩
  ·have kj:k≠3:=fun e=>by subst e;exact c (Zt rfl)
   exact af Hj ⟨sj,fun lt=>oj (by lia)⟩
 clear oj sj;rintro Hj ⟨sj,oj⟩;refine⟨[_,_,_,_],rfl,?_⟩;apply g_ (Pm:=fun Hx=>au H Hx/\(k<5->OKK k cs T))
 ·intro af;refine⟨_,rfl,rfl,_,rfl,?_⟩;refine aU (fun c=>?_) (fun c=>?_)
  ·have kj:k=4:=by have:=Zx c;injection this with e;lia
   rcases hF with ⟨fe,a0,hc,di⟩|nf
   ·exact⟨_,rfl,.inl ⟨l,rf,cs,rfl,hp.mono sj,co,fe,fun Hx sx=>af Hx ⟨sj.trans sx,fun _=>⟨fe,fun z=>absurd z.1 (by lia),fun z=>absurd z.1 (by lia)⟩⟩⟩⟩
   ·exact⟨_,rfl,.inr ⟨rfl,l,rf,cs,[],rfl,hp.mono sj,co,n4,nf,fun Hx sx=>qF nf Hx (sj.trans sx)⟩⟩
  ·have kj:k≠4:=fun e=>by subst e;exact c (Zt rfl)
   exact af Hj ⟨sj,fun lt=>oj (by lia)⟩
 clear oj sj;rintro Hj ⟨sj,oj⟩;refine⟨[_,_,_,_],rfl,?_⟩;apply g_ (Pm:=fun Hx=>au H Hx/\(k<6->OKK k cs T))
 ·intro af;refine⟨_,rfl,rfl,_,rfl,?_⟩;refine aU (fun c=>?_) (fun c=>?_)
  ·have kj:k=5:=by have:=Zx c;injection this with e;lia
   rcases hF with ⟨fe,a0,hc,di⟩|nf
   ·exact⟨_,rfl,.inl ⟨l,rf,cs,0,rfl,hp.mono sj,co,fe,⟨by decide,by decide⟩,fun t Hx i r sx _=>af Hx ⟨sj.trans sx,fun _=>⟨fe,fun z=>absurd z.1 (by lia),fun z=>absurd z.1 (by lia)⟩⟩⟩⟩
   ·exact⟨_,rfl,.inr ⟨rfl,l,rf,cs,[_],rfl,hp.mono sj,co,n4,nf,fun Hx sx=>qF nf Hx (sj.trans sx)⟩⟩
  ·have kj:k≠5:=fun e=>by subst e;exact c (Zt rfl)
   exact af Hj ⟨sj,fun lt=>oj (by lia)⟩
 clear oj sj;rintro Hj ⟨sj,oj⟩;refine⟨[_,_,_,_],rfl,?_⟩;apply g_ (Pm:=fun Hx=>au H Hx/\(k<7->OKK k cs T))
 ·intro af;refine⟨_,rfl,rfl,_,rfl,?_⟩;refine aU (fun c=>?_) (fun c=>?_)
  ·have kj:k=6:=by have:=Zx c;injection this with e;lia
   rcases hF with ⟨fe,a0,hc,di⟩|nf
   ·exact⟨_,rfl,.inl ⟨l,rf,cs,2,rfl,hp.mono sj,co,fe,⟨by decide,by decide⟩,fun r rg Hx sx _ _=>af Hx ⟨sj.trans sx,fun _=>⟨fe,fun z=>absurd z.1 (by lia),fun z=>absurd z.1 (by lia)⟩⟩⟩⟩
   ·exact⟨_,rfl,.inr ⟨rfl,l,rf,cs,[_],rfl,hp.mono sj,co,n4,nf,fun Hx sx=>qF nf Hx (sj.trans sx)⟩⟩
  ·have kj:k≠6:=fun e=>by subst e;exact c (Zt rfl)
   exact af Hj ⟨sj,fun lt=>oj (by lia)⟩
 clear oj sj;rintro Hj ⟨sj,oj⟩;refine⟨[_,_,_,_],rfl,?_⟩;apply g_ (Pm:=fun Hx=>au H Hx/\(k<8->OKK k cs T))
 ·intro af;refine⟨_,rfl,rfl,_,rfl,?_⟩;refine aU (fun c=>?_) (fun c=>?_)
  ·have kj:k=7:=by have:=Zx c;injection this with e;lia
   rcases hF with ⟨fe,a0,hc,di⟩|nf
   ·exact⟨_,rfl,.inl ⟨l,rf,cs,2,rfl,hp.mono sj,co,fe,⟨by decide,by decide⟩,fun t Hx sx _=>af Hx ⟨sj.trans sx,fun _=>⟨fe,fun z=>absurd z.1 (by lia),fun z=>absurd z.1 (by lia)⟩⟩⟩⟩
   ·exact⟨_,rfl,.inr ⟨⟨rfl,l,rf,cs,[_],rfl,hp.mono sj,co,n4,nf,fun Hx sx=>qF nf Hx (sj.trans sx)⟩,l,rfl⟩⟩
  ·have kj:k≠7:=fun e=>by subst e;exact c (Zt rfl)
   exact af Hj ⟨sj,fun lt=>oj (by lia)⟩
 clear oj sj;rintro Hj ⟨sj,oj⟩;refine⟨[_,_,_,_],rfl,?_⟩;apply g_ (Pm:=fun Hx=>au H Hx/\(k<9->OKK k cs T))
 ·intro af;refine⟨_,rfl,rfl,_,rfl,?_⟩;refine aU (fun c=>?_) (fun c=>?_)
  ·have kj:k=8:=by have:=Zx c;injection this with e;lia
   rcases hF with ⟨fe,a0,hc,di⟩|nf
   ·exact⟨_,rfl,_,rfl,.inl ⟨l,g,rf,rg,cs,gs,rfl,hp.mono sj,hg.mono sj,co,cog,fe,fg,(fun Hx sx=>af Hx ⟨sj.trans sx,fun _=>⟨fe,fun z=>absurd z.1 (by lia),fun z=>absurd z.1 (by lia)⟩⟩),fun t Hx sx=>af Hx ⟨sj.trans sx,fun _=>⟨fe,fun z=>absurd z.1 (by lia),fun z=>absurd z.1 (by lia)⟩⟩⟩⟩
   ·exact⟨_,rfl,_,rfl,.inr (.inl ⟨rfl,l,rf,cs,[_],rfl,hp.mono sj,co,n4,nf,fun Hx sx=>qF nf Hx (sj.trans sx)⟩)⟩
  ·have kj:k≠8:=fun e=>by subst e;exact c (Zt rfl)
   exact af Hj ⟨sj,fun lt=>oj (by lia)⟩
 clear oj sj;rintro Hj ⟨sj,oj⟩;refine⟨[_,_,_,_],rfl,?_⟩;apply g_ (Pm:=fun Hx=>au H Hx/\(k<10->OKK k cs T))
 ·intro af;refine⟨_,rfl,rfl,_,rfl,?_⟩;refine aU (fun c=>?_) (fun c=>?_)
  ·have kj:k=9:=by have:=Zx c;injection this with e;lia
   rcases hF with ⟨fe,a0,hc,di⟩|nf
   ·exact⟨_,rfl,_,rfl,.inl ⟨g,l,rg,rf,gs,cs,rfl,hg.mono sj,hp.mono sj,cog,co,fg,fe,(fun Hx sx=>af Hx ⟨sj.trans sx,fun _=>⟨fe,fun z=>absurd z.1 (by lia),fun z=>absurd z.1 (by lia)⟩⟩),fun t Hx sx=>af Hx ⟨sj.trans sx,fun _=>⟨fe,fun z=>absurd z.1 (by lia),fun z=>absurd z.1 (by lia)⟩⟩⟩⟩
   ·exact⟨_,rfl,_,rfl,.inr (.inr ⟨g,rg,gs,l,rf,cs,rfl,hg.mono sj,cog,fg,hp.mono sj,co,n4,nf,fun Hx sx=>qF nf Hx (sj.trans sx)⟩)⟩
  ·have kj:k≠9:=fun e=>by subst e;exact c (Zt rfl)
   exact af Hj ⟨sj,fun lt=>oj (by lia)⟩
 clear oj sj;rintro Hj ⟨sj,oj⟩;refine⟨[_,_,_,_],rfl,?_⟩;apply g_ (Pm:=fun Hx=>au H Hx/\(k<11->OKK k cs T))
 ·intro af;refine⟨_,rfl,rfl,_,rfl,?_⟩;refine aU (fun c=>?_) (fun c=>?_)
  ·have kj:k=10:=by have:=Zx c;injection this with e;lia
   rcases hF with ⟨fe,a0,hc,di⟩|nf
   ·exact⟨_,rfl,_,rfl,.inl ⟨l,rf,cs,tu,T,rfl,hp.mono sj,co,fe,sj _ _ hT,bT,(fun z Hx sx=>qT fe kj z Hx (sj.trans sx)),fun z r rg Hx sx _=>af Hx ⟨sj.trans sx,fun _=>⟨fe,(fun y=>by rw[z]at y;cases y.2),fun y=>absurd y.1 (by lia)⟩⟩⟩⟩
   ·exact⟨_,rfl,_,rfl,.inr ⟨rfl,l,rf,cs,[_],rfl,hp.mono sj,co,n4,nf,fun Hx sx=>qF nf Hx (sj.trans sx)⟩⟩
  ·have kj:k≠10:=fun e=>by subst e;exact c (Zt rfl)
   exact af Hj ⟨sj,fun lt=>oj (by lia)⟩
 clear oj sj;rintro Hj ⟨sj,oj⟩;refine⟨[_,_,_,_],rfl,?_⟩;apply g_ (Pm:=fun Hx=>au H Hx/\(k<12->OKK k cs T))
 ·intro af;refine⟨_,rfl,rfl,_,rfl,?_⟩;refine aU (fun c=>?_) (fun c=>?_)
  ·have kj:k=11:=by have:=Zx c;injection this with e;lia
   rcases hF with ⟨fe,a0,hc,di⟩|nf
   ·exact⟨_,rfl,.inl ⟨l,rf,cs,ts,rfl,hp.mono sj,co,fe,a0,hc,di,(fun z Hx sx=>qW fe kj z Hx (sj.trans sx)),fun z r as us Hx sx _ _ _ _=>af Hx ⟨sj.trans sx,fun _=>⟨fe,(fun y=>absurd y.1 (by lia)),fun y=>by lia⟩⟩⟩⟩
   ·exact⟨_,rfl,.inr ⟨rfl,l,rf,cs,[],rfl,hp.mono sj,co,n4,nf,fun Hx sx=>qF nf Hx (sj.trans sx)⟩⟩
  ·have kj:k≠11:=fun e=>by subst e;exact c (Zt rfl)
   exact af Hj ⟨sj,fun lt=>oj (by lia)⟩
 clear oj sj;rintro Hj ⟨sj,oj⟩;exact q (oj k12) Hj sj
end
end FD
end
section
namespace L2
open PySem PySem.W PySem.Spec PyProof.Rows
section
variable{X:Cx}
theorem oy:∀{bs:List Bool} {C':List Value},aR (bs.map V.bl) C'->C'=bs.map Value.bool
 | [],_,r=>by cases r;rfl
 |b::bs,_,r=>by
  cases r with
  |cons ru rs=>rw[oy rs,show _=Value.bool b from ru];rfl
noncomputable def gx:Value->Bool
 | .bool b=>b
 |_=>false
noncomputable def BK:V->List V->Hp->VK->Prop:=fun x vs H Q=>∃(l:Addr) (bs:List Bool),x=.ref l/\vs=[.bl true]/\H l=some (.lst (bs.map V.bl))/\Q (.int ((bs.countP id:Nat):Int)) H
theorem yk:MtM X "list.count" BK:=by
 intro aa s σ H x vs v us Q I rx rv h;obtain⟨l,bs,rfl,rfl,hH,q⟩:=h;cases rx;obtain⟨u,rfl,ru⟩:=rv.one;cases (show u=Value.bool true from ru)
 obtain⟨z,C',n,r,hl,e⟩:=I.lstM hH;have ei:=oy r;subst ei;refine WX F.slot_list_count ⟨_,e,rfl⟩ F.entry_list_count (F.args_list_count_2 _ _) (SeqAt.list_countAt l _ n _ _ (.bool true) gx) ⟨e,fun y hy=>?_,?_⟩
 ·have hy:y∈bs.map Value.bool:=by simpa using hy
  obtain⟨b,_,rfl⟩:=Y9.mp hy
  have:=qB (A:=X.A.in1) (s:=s) (y:=.bl b) (x:=.bl true) (u:=.bool b) (v:=.bool true) rfl rfl rfl rfl
  have eb:eqV (.bl b) (.bl true)=gx (.bool b):=by cases b<;>rfl
  rwa [eb]at this
 ·have ec:((bs.map Value.bool).toArray.toList.countP gx)=bs.countP id:=by
   show (bs.map Value.bool).countP gx=_;rw[List.countP_map];rfl
  rw[ec];exact⟨.int _,H,I.tok _,⟨_,rfl⟩,q⟩
noncomputable def BR:V->List V->Hp->VK->Prop:=fun x vs H Q=>∃(l:Addr) (bs:List Bool) (j:Nat),x=.ref l/\vs=[.bl true]/\H l=some (.lst (bs.map V.bl))/\bs[j]?=some true/\(∀m,m<j->bs[m]?=some false)/\Q (.int (j:Int)) H
theorem w4:MtM X "list.index" BR:=by
 intro aa s σ H x vs v us Q I rx rv h;obtain⟨l,bs,j,rfl,rfl,hH,hj,hm,q⟩:=h;cases rx;obtain⟨u,rfl,ru⟩:=rv.one;cases (show u=Value.bool true from ru)
 obtain⟨z,C',n,r,hl,e⟩:=I.lstM hH;have ei:=oy r;subst ei;have hjl:j<bs.length:=(Zh.mp hj).1;have zl:bs.length<2^62:=by
  have:(bs.map V.bl).length<=sizeLine:=z
  rw[Z6]at this;exact Nat.lt_of_le_of_lt this (by decide)
 refine WX F.slot_list_index ⟨_,e,rfl⟩ F.entry_list_index (F.args_list_index_2 _ _) (SeqAt.list_indexAt l _ n _ _ (.bool true) gx j (by simpa using hjl) (by lia) ?_ ?_) ⟨e,fun y hy=>?_,⟨.int _,H,I.tok _,⟨_,rfl⟩,q⟩⟩
 ·have:=(Zh.mp hj).2
  simp[this,gx]
 ·intro m hm1 Eu
  have:=(Zh.mp (hm m Eu)).2
  simp[this,gx]
 ·have hy:y∈bs.map Value.bool:=by simpa using hy
  obtain⟨b,_,rfl⟩:=Y9.mp hy
  have:=qB (A:=X.A.in1) (s:=s) (y:=.bl b) (x:=.bl true) (u:=.bool b) (v:=.bool true) rfl rfl rfl rfl
  have eb:eqV (.bl b) (.bl true)=gx (.bool b):=by cases b<;>rfl
  rwa [eb]at this
end
end L2
end
section
namespace L2
open PySem PySem.W PySem.Spec PyProof.Rows
structure fM(k:Nat)(A:ZK):Prop where
 dp:A.depth+3*k+5<recursionLimit
 un:A.units+16*k+200<cLine
theorem fM.of{j k:Nat}{A:ZK}(r:dJ k A)(h:j<=k)(e:Option Value):fM j (A.mark e):=⟨by have:=r.dp;show A.depth+3*j+5<_;lia,by have:=r.un;show A.units+16*j+200<_;lia⟩
theorem fM.depth{k:Nat}{A:ZK}(r:fM k A):A.depth<recursionLimit:=by have:=r.dp;lia
theorem fM.deeper{k:Nat}{A:ZK}(r:fM (k+1) A)(env:Env):fM k (A.deeper env):=
 ⟨by have:=r.dp;show A.depth+1+3*k+5<_;lia,by have:=r.un;show A.units+3+16*k+200<_;lia⟩
noncomputable def ln(CX:CXT)(P:Zv)(w:Zl)(K:Z3)(mg:Str->Option Value)(base:ZF)(N:List Str)(qual:Str)(scope:XQ)(f:Addr)(cd:Value)(A:ZK)(outer:List Env)(s:Shared)(H:Hp)(E:XK):Cx:={fQ CX P w K mg base N qual scope f cd A outer s H E with calm:=false}
structure fX(P:Zv)(w:Zl)(K:Z3)(mg:Str->Option Value)(base:ZF)(CX:CXT)(k:Nat)(f:Addr)(fd:Zf)(ps:List Str)(sp:Sp):Prop where
 len:∀vs H Q E,sp vs H Q E->vs.length=ps.length
 run:∀(A:ZK) (outer:List Env) (s:Shared) (H:Hp) (args:Args) (us:List Value) (vs:List V) (Q:VK) (E:XK),fM k A->oV P w K mg base A outer s H->U7 s fd args (ps.zip us)->aR vs us->sp vs H Q E->
  Xd (model P w) A (.call (.ref f) args) (CR CX outer P w H s Q E) s
theorem wD{CX:CXT}{P:Zv}{w:Zl}{K:Z3}{mg:Str->Option Value}{base:ZF}{N ps:List Str}{qual:Str}{scope:XQ}{f:Addr}{cd:Value}{A:ZK}{outer:List Env}{s s1:Shared}{H:Hp}{E:XK}{us:List Value}{vs:List V}
  (S:aD N ps scope)(e0:oV P w K mg base A outer s H)(hl:vs.length=ps.length)(r:aR vs us)
  (x:InCallC s s.heap.objs.size (bindL (envOfC qual scope s.heap.objs.size f cd).kindOf (ps.zip us) fun _=>none) (cellsFrom (s.heap.objs.size+1) scope.names []) (bindC (envOfC qual scope s.heap.objs.size f cd).kindOf (ps.zip us) fun _=>none) s1):
  Inv (ln CX P w K mg base N qual scope f cd A outer s H E) [] (start N vs) H s1:=by
 have EC:ps.length<=N.length:=by have:=Y_ Wv S.pre;rw[Zi]at this;lia
 obtain⟨h1,tk,rfl,hk⟩:=x.done;have noA:∀b:Addr,b∉(ln CX P w K mg base N qual scope f cd A outer s H E).ex:=fun b z=>absurd (show b∈([]:List Addr) from z) (by simp)
 refine⟨⟨e0.mod,S.kind,rfl,rfl,Nat.le_refl _,fun y z c h1 h2=>?_,fun y hy=>?_,fun y c _ h=>?_,(fun z=>nomatch (show false=true from z)),VU e0.frames,.inr ⟨rfl,rfl⟩,fun b z=>absurd z (noA b),e0.bs,e0.bsz,fun b _ _=>noA b,fun b z=>absurd z (noA b),e0.funs,e0.frf⟩,
  rfl,e0.bare,Un.kept hk,⟨_,x.toInCall.ns,fun i y v h1 h2 h3=>?_⟩,fun y c h=>⟨_,x.cell y c h⟩,e0.hok.fresh (Nat.le_refl _),fun y c h=>?_,fun p hp=>absurd (show p∈([]:List (Addr×Obj)) from hp) (by simp),e0.hok.kept hk,?_⟩
 ·exact S3 x.apart (ZR h1) (ZR h2)
 ·have hy:scope.names.lookup y=some .cell\/scope.names.lookup y=some .free:=hy;rcases hy with hy|hy
  ·exact jR hy
  ·exact absurd rfl (S.nofree _ (ZR hy))
 ·exact Nat.le_of_lt (x.above y c (ZR h))
 ·have hi:i<vs.length:=by
   unfold start at h2;by_cases hi:i<vs.length
   ·exact hi
   ·rw[Y1 (by simpa using hi)]at h2
    rw[X2]at h2
    split at h2<;>cases h2
  have ha:vs[i]?=some v:=by
   unfold start at h2;rw[ZL (by simpa using hi),Zn]at h2
   cases e:vs[i]? with
   |none=>rw[e]at h2;cases h2
   |some a=>rw[e]at h2;cases h2;rfl
  obtain⟨u,hu,rv⟩:=r.get ha;have hp:ps[i]?=some y:=by
   rw[<-S.pre,Yx (by lia)];exact h1
  have ndP:ps.Nodup:=by rw[<-S.pre];exact S.nd.sublist (Ug _ _)
  refine⟨u,rv,?_⟩;rcases S.par y (WC hp) with k|k
  ·exact .inl ⟨k,kh ndP hp hu k⟩
  ·obtain⟨c,e⟩:=jR (n:=s.heap.objs.size+1) k;refine .inr ⟨.inl k,c,e,?_⟩;have q:=x.cell y c e;rw[kE ndP hp hu (by show scope.names.lookup y≠_;rw[k];decide)]at q
   exact q
 ·exact e0.hok.fresh (Nat.le_of_lt (x.above y c (ZR h)))
 ·unfold start;show _=N.length;rw[Z5,Z6,XI];lia
theorem CM{CX:CXT}{P:Zv}{w:Zl}{K:Z3}{mg:Str->Option Value}{base:ZF}{k:Nat}{f:Addr}{name qual:Str}{params:TV}{body:List Stmt}{scope:XQ}{dV kV doc pm E3 ct oc:Value}{an od:Option Addr}
  {Fl:Array (Option Value)}{N ps:List Str}{sp:Sp}(lk:K.lookup f=some ⟨oc,od,.func (YO name qual params body scope dV kV doc pm an E3 ct),Fl⟩)(F0:Wq K E3 qual=true)(S:aD N ps scope)
  (len:∀vs H Q E,sp vs H Q E->vs.length=ps.length)
  (EG:∀(A:ZK) (outer:List Env) (s:Shared) (H:Hp) (vs:List V) (Q:VK) (E:XK),fM k (A.deeper (envOfC qual scope s.heap.objs.size f E3))->sp vs H Q E->
   ∃t,PSs (ln CX P w K mg base N qual scope f E3 A outer s H E) body t/\t {nx:=fun _ H'=>Q .non H',rt:=Q} (start N vs) H):
  fX P w K mg base CX (k+1) f (YO name qual params body scope dV kV doc pm an E3 ct) ps sp:=by
 refine⟨len,fun A outer s H args us vs Q E hr e0 hb r F1=>?_⟩;have hl:=len _ _ _ _ F1;have KX:K.In s.heap:=e0.mod.kin.keeps fun b o e=>(e0.bs b o e).1;have lim:s.heap.NoLimit:=e0.mod.nolimit.keeps fun b o e=>(e0.bs b o e).1;have hkind:∀y∈ps.zip us,scope.names.lookup y.1=some .local\/(scope.names.lookup y.1=some .cell/\((cellsFrom (s.heap.objs.size+1) scope.names []).lookup y.1).isSome=true):=fun ⟨n,v⟩ hy=>by
  rcases S.par n (WH hy).1 with q|q
  ·exact .inl q
  ·exact .inr ⟨q,Wr _ _ _ (.inl q)⟩
 refine VH hr.depth (KX _ _ lk) rfl S.co S.gen rfl (Us KX F0) (hb _ _ _ _ ?_);refine WW S.kind hkind fun env he s1 x=>?_;subst he;refine⟨lim.keeps x.toInCall.keep,S4 ?_⟩;obtain⟨t,ht,hq⟩:=EG A outer s H vs Q E (hr.deeper _) F1;have I:Inv (ln CX P w K mg base N qual scope f E3 A outer s H E) [] (start N vs) H s1:=wD S e0 hl r x;refine Y0 (ht [] s1 (start N vs) H _ I hq) (fun fl s' hs=>?_) fun e s' hs=>hs;have fin:∀{σ':St} {H':Hp} {v:V} {u:Value},Inv (ln CX P w K mg base N qual scope f E3 A outer s H E) [] σ' H' s'->RelV v u->Q v H'->CE outer P w H s Q u s':=
  fun {σ' H' v u} J rv q=>⟨v,H',J.os,J.bare,J.base,J.hok,rv,q⟩
 cases fl with
 |ret u=>
  obtain⟨v,σ',H',J,rv,q⟩:=hs;exact fin J rv q
 |next=>
  obtain⟨σ',H',J,q⟩:=hs;exact fin (v:=V.non) (u:=Value.none) J rfl q
 |brk=>
  obtain⟨_,_,_,q⟩:=hs;exact False.elim q
 |cont=>
  obtain⟨_,_,_,q⟩:=hs;exact False.elim q
section
variable{X:Cx}{CX:CXT}{k:Nat}{f C:Addr}{fd:Zf}{ps:List Str}{sp:Sp}{F_:List V}{ds:List Value}{E:XK}{x m:Str}{p pos apos:Pos}{e o:ZN}{es:List ZN}{ta:TE}{t:TA}
theorem BS{aa:List (Addr×Obj)}{σ:St}{H:Hp}{s:Shared}{Q:VK}{us:List Value}{vs:List V}(F:fX X.prog X.w X.K X.mg X.base CX k f fd ps sp)(hr:fM k X.A)(hb:Binds X.K fd ps ds)(hd:aR F_ ds)(hx:jt CX X E)
  (I:Inv X aa σ H s)(r:aR vs us)(h:sp (vs++F_) H Q E):Zq (model X.prog X.w) X.A (call (.ref f) us) (EP X aa σ Q) X.xe s:=by
 have r2:aR (vs++F_) (us++ds):=r.append hd;have hl:(us++ds).length=ps.length:=by rw[<-r2.length];exact F.len _ _ _ _ h
 refine Vh (X_ (F.run X.A X.stack s H ⟨us,[]⟩ (us++ds) (vs++F_) Q E hr I.env0 (hb s us I.kIn hl) r2 h) fun r s' hq=>?_);cases r with
 |error e=>exact hx aa σ H s e s' I hq
 |ok fl=>
  cases fl with
  |ret u=>exact I.after hq
  |next=>exact False.elim hq
  |brk=>exact False.elim hq
  |cont=>exact False.elim hq
theorem zX(F:fX X.prog X.w X.K X.mg X.base CX k f fd ps sp)(hr:fM k X.A)(hg:Gl X x)(hm:X.mg x=some (.ref f))(hk:Yl X.K (.ref f)=true)(hb:Binds X.K fd ps ds)(hd:aR F_ ds)(hx:jt CX X E)
  (ha:PA X (e::es) t)(EL:(x==("__debug__" : Str))=false:=by decide)(he:Zp (e::es) X.env=(false,eval e X.env)::Zp es X.env:=by rfl)(EC:(backTo pos (Zp es X.env)).any (·.1)=false:=by rfl):
  PE X (.Call (.Name x p) (e::es) [] pos) (jK sp F_ E t):=by
 intro aa s σ H Q I h;refine Yh (iq I hg hm ?_ EL);refine WU (h₀:=X.base) I.ok.mod.kin hk (thn (ha pos aa s σ H _ I h) fun us s1 ⟨vs,H1,I1,r,q⟩=>⟨I1.kIn,?_⟩) he EC;exact BS F hr hb hd hx I1 r q
end
section
variable{P:Zv}{w:Zl}{K:Z3}{mg:Str->Option Value}{base:ZF}
theorem Fun.okM{x qual:Str}{st:Stmt}{f:Addr}{fd:Zf}{N ps:List Str}{k:Nat}{sp:Sp}(F:Fun K x qual st f fd)(S:aD N ps (aq st))(len:∀vs H Q E,sp vs H Q E->vs.length=ps.length)
  (EG:∀(E3:Value) (A:ZK) (outer:List Env) (s:Shared) (H:Hp) (vs:List V) (Q:VK) (E:XK),fM k (A.deeper (envOfC qual (aq st) s.heap.objs.size f E3))->sp vs H Q E->
   ∃t,PSs (ln CX0 P w K mg base N qual (aq st) f E3 A outer s H E).nox (ez st) t/\t {nx:=fun _ H'=>Q .non H',rt:=Q} (start N vs) H):fX P w K mg base CX0 (k+1) f fd ps sp:=by
 obtain⟨oc,od,kV,doc,pm,an,E3,ct,Fl,rfl,lk,F0⟩:=F.ex;refine CM lk F0 S len fun A outer s H vs Q E hr F1=>?_;obtain⟨t,h,q⟩:=EG E3 A outer s H vs Q E hr F1;exact⟨t,h.nox,q⟩
theorem fX.or{CX:CXT}{k:Nat}{f:Addr}{fd:Zf}{ps:List Str}{sp G5:Sp}(F:fX P w K mg base CX k f fd ps sp)(G:fX P w K mg base CX k f fd ps G5):fX P w K mg base CX k f fd ps (fun vs H Q E=>sp vs H Q E\/G5 vs H Q E):=
 ⟨fun vs H Q E h=>h.elim (F.len vs H Q E) (G.len vs H Q E),fun A outer s H args us vs Q E hr he hb hv hs=>hs.elim (F.run A outer s H args us vs Q E hr he hb hv) (G.run A outer s H args us vs Q E hr he hb hv)⟩
structure n_(P:Zv)(w:Zl)(K:Z3)(mg:Str->Option Value)(base:ZF)(n:Nat)(x:Str)(ps:List Str)(sp:Sp):Prop where
 ex:∃f fd,fX P w K mg base CX0 n f fd ps sp/\Binds K fd ps []/\Yl K (.ref f)=true/\mg x=some (.ref f)
theorem n_.of{n:Nat}{x:Str}{ps:List Str}{sp:Sp}{f:Addr}{fd:Zf}(F:fX P w K mg base CX0 n f fd ps sp)(b:Binds K fd ps [])(k:Yl K (.ref f)=true)(m:mg x=some (.ref f)):n_ P w K mg base n x ps sp:=⟨f,fd,F,b,k,m⟩
end
theorem BD{X:Cx}{j k:Nat}{x:Str}{ps:List Str}{sp:Sp}{p pos:Pos}{e:ZN}{es:List ZN}{t:TA}{v:Option Value}{A:ZK}(C:n_ X.prog X.w X.K X.mg X.base j x ps sp)(hA:X.A=A.mark v)(hr:dJ k A)(hj:j<=k)(hg:Gl X x)(ha:PA X (e::es) t)
  (EL:(x==("__debug__" : Str))=false:=by decide)(he:Zp (e::es) X.env=(false,eval e X.env)::Zp es X.env:=by rfl)(EC:(backTo pos (Zp es X.env)).any (·.1)=false:=by rfl):
  PE X (.Call (.Name x p) (e::es) [] pos) (jK sp [] E0 t):=by
 obtain⟨f,fd,F,b,k',m⟩:=C.ex;exact zX F (by rw[hA];exact fM.of hr hj v) hg m k' b .nil (fun _ _ _ _ _ _ _ z=>(show False from z).elim) ha EL he EC
end L2
end
section
namespace FD
open PySem L2 FF
noncomputable abbrev oG:Stmt:=top 67
noncomputable abbrev re:Stmt:=top 68
noncomputable def mR(C:Addr)(word:Str):Sp:=fun vs H Q _=>∃ea,vs=[.ref ea]/\H ea=some (jf ea (.ref C))/\∀H',au H H'->Q (.str word) H'
noncomputable def wordAt(j:Nat):Str:=if j=0 then "fence" else if j=1 then "turning" else "wide"
section
variable{P:Zv}{w:Zl}{K:Z3}{mg:Str->Option Value}{base:ZF}{f:Addr}{fd:Zf}{cE cF cT cW C:Addr}{b1 b2 b3:Bool}{j:Nat}
theorem s_:aD ["e","kinds"] ["e"] (aq oG):=.mk'
theorem n9(F:Fun K "_law_word_of" "_law_word_of" oG f fd)(m:lV K mg cE cF cT cW)(m_V:mg "ValueError" = none)(E6:mg "isinstance" = none)(Z:gB K C)
  (k1:Y7 K (.ref C) (.ref cF)=some b1)(k2:Y7 K (.ref C) (.ref cT)=some b2)(k3:Y7 K (.ref C) (.ref cW)=some b3)(k4:Y7 K (.ref C) (.type "ValueError")=some true)
  (j3:j<3)(hc:[b1,b2,b3].countP id=1)(hj:[b1,b2,b3][j]?=some true)(hm:∀m,m<j->[b1,b2,b3][m]?=some false):fX P w K mg base CX0 1 f fd ["e"] (mR C (wordAt j)):=by
 refine F.okM s_ (by rintro _ _ _ _⟨_,rfl,_⟩;rfl) fun E3 A outer s H vs Q E hr h=>?_
 obtain⟨ea,rfl,he,q⟩:=h;refine⟨_,am (aE (i:=1) s_.nd (bK (da (aN (ik (cv:=.ref cF) Z k1 (fun u r=>r)) rfl E6 X7 (pa2 (pv 0) (io (v:=.ref cF) rfl m.mF rfl)))
   (da (aN (ik (cv:=.ref cT) Z k2 (fun u r=>r)) rfl E6 X7 (pa2 (pv 0) (io (v:=.ref cT) rfl m.mT rfl)))
   (pa1 (aN (ik (cv:=.ref cW) Z k3 (fun u r=>r)) rfl E6 X7 (pa2 (pv 0) (io (v:=.ref cW) rfl m.mW rfl))))))))
  (am (aZ (PW.pt (jX (aQ iS (i5 Y3 PySem.F.slot_list_count PySem.F.type_list_count yk (pv 1) (pa1 eJ)) ad)
   (iO (jw (c7 (aN (ik (cv:=.ty "ValueError") Z k4 (fun u r=>r)) rfl E6 X7 (pa2 (pv 0) (Bw (v:=.ty "ValueError") (u:=.type "ValueError") rfl m_V (by kernel_rfl) rfl)))))))) (ap (aC b6)) aL)
  (ap (aC (ak aH (bK (pa3 b6 b6 b6)) (i5 Y3 PySem.F.slot_list_index PySem.F.type_list_index w4 (pv 1) (pa1 eJ)))))),?_⟩
 refine⟨_,rfl,ea,rfl,he,_,rfl,ea,rfl,he,_,rfl,ea,rfl,he,aS (show 3<=1000 by decide),fun p hp=>⟨[_,_],rfl,?_⟩⟩
 have s1:=ao hp (.lst [.bl b1,.bl b2,.bl b3]);have h1:(upd H p (.lst [.bl b1,.bl b2,.bl b3])) p=some (.lst ([b1,b2,b3].map V.bl)):=aj;generalize upd H p (.lst [.bl b1,.bl b2,.bl b3])=H1 at *
 refine⟨_,rfl,.inl ⟨rfl,_,SqL.of h1⟩,p,[b1,b2,b3],rfl,rfl,h1,rfl,_,rfl,?_⟩;rw[hc];refine fk ?_;refine⟨_,rfl,ea,rfl,s1 _ _ he,_,rfl,fk ⟨[_,_],rfl,?_⟩⟩;refine⟨aS (show 3<=1000 by decide),fun p2 hp2=>?_⟩
 have s2:=ao hp2 (.lst [.str "fence",.str "turning",.str "wide"]);refine⟨_,rfl,.inl ⟨rfl,_,SqL.of (s2 _ _ h1)⟩,p,[b1,b2,b3],j,rfl,rfl,s2 _ _ h1,hj,hm,p2,_,_,_,rfl,rfl,SqL.of aj,?_,q _ (s1.trans s2)⟩;rcases j with _|_|_|j
 ·exact c8 (j:=0) rfl
 ·exact c8 (j:=1) rfl
 ·exact c8 (j:=2) rfl
 ·lia
theorem uq:aD ["which","corners","good","six","e"] ["which","corners","good","six"] (aq re):=.mk'
noncomputable def Cf(cF cT cW:Addr):Sp:=fun vs H Q E=>mR cF "fence" vs H Q E\/mR cT "turning" vs H Q E\/mR cW "wide" vs H Q E
noncomputable def RefW(k:Nat)(cs:List Pt)(T:Tn)(R:Str->Prop):Prop:=(¬aF cs->R "fence")/\(aF cs->k=10->isT T=false->R "turning")/\(aF cs->k=11->60<dO cs->R "wide")/\(OKK k cs T->R "done")
noncomputable def u8:Sp:=fun vs H Q E=>∃(k:Nat) (l:Addr) (rf:Nat->Addr) (cs:List Pt) (g:Addr) (rg:Nat->Addr) (gs:List Pt) (tu:Addr) (T:Tn) (ts:List Tri),vs=[.int k,.ref l,.ref g,.ref tu]/\k<12/\PLs H l rf cs/\aJ cs/\cs.length<=400/\PLs H g rg gs/\aJ gs/\aF gs/\TnA H tu T/\i9 T/\
 (aF cs->area cs≠0/\bM (bW cs) ts/\fm (bW cs))/\RefW k cs T fun word=>∀H',au H H'->Q (.str word) H'
theorem yX(F:Fun K "_law_tried" "_law_tried" re f fd)(cC:cq P w K mg base 9 "_law_called" ["which","corners","good","six"] (rF cF cT cW))(cO:n_ P w K mg base 1 "_law_word_of" ["e"] (Cf cF cT cW))(m:lV K mg cE cF cT cW)
  (x1:XX K (.ref cF) (.ref cE)=some true)(x2:XX K (.ref cT) (.ref cE)=some true)(x3:XX K (.ref cW) (.ref cE)=some true):aI P w K mg base CX0 10 f fd ["which","corners","good","six"] u8:=by
 refine F.ok uq (by rintro _ _ _ _⟨_,_,_,_,_,_,_,_,_,_,rfl,_⟩;rfl) fun E3 A outer s H vs Q E hr h=>?_
 obtain⟨k,l,rf,cs,g,rg,gs,tu,T,ts,rfl,k12,hp,co,n4,hg,cog,fg,hT,bT,hF0,qF,qT,qW,q⟩:=h;obtain⟨ft,fdt,FT,bt,kt,mt⟩:=cC.ex;refine⟨_,am (wn (fun _ _ z=>z) rfl rfl rfl rfl FT hr rfl mt kt bt (pa4 (pv 0) (pv 1) (pv 2) (pv 3)) rfl m.mE uq.nd (i:=4) rfl (ZQ rfl) rfl rfl
   (fun ea=>ap (aC (BD (v:=some (.ref ea)) cO rfl hr (by decide) rfl (pa1 (pv 4))))))
  (ap (aC b6)),?_⟩
 refine⟨_,rfl,_,rfl,_,rfl,_,rfl,k,l,rf,cs,g,rg,gs,tu,T,ts,rfl,k12,hp,co,n4,hg,cog,fg,hT,bT,hF0,⟨fun nf H1 s1=>⟨x1,fun ea FB=>?_⟩,fun fe e z H1 s1=>⟨x2,fun ea FB=>?_⟩,fun fe e z H1 s1=>⟨x3,fun ea FB=>?_⟩⟩,fun ok H1 s1=>⟨[_,_,_,_,_],rfl,?_⟩⟩
 ·have s2:=s1.trans (ao FB (jf ea (.ref cF)));exact⟨_,rfl,.inl ⟨ea,rfl,aj,fun H3 s3=>qF nf H3 (s2.trans s3)⟩⟩
 ·have s2:=s1.trans (ao FB (jf ea (.ref cT)));exact⟨_,rfl,.inr (.inl ⟨ea,rfl,aj,fun H3 s3=>qT fe e z H3 (s2.trans s3)⟩)⟩
 ·have s2:=s1.trans (ao FB (jf ea (.ref cW)));exact⟨_,rfl,.inr (.inr ⟨ea,rfl,aj,fun H3 s3=>qW fe e z H3 (s2.trans s3)⟩)⟩
 ·exact q ok H1 s1
end
end FD
end
section
namespace FD
open PySem L2 FF
noncomputable abbrev jp:Stmt:=top 69
theorem y9{ds:List Pt}(h:ds.length<3):¬aF ds:=fun fe=>by have:=fe.lo;lia
theorem Cg{ds:List Pt}(h:12<ds.length):¬aF ds:=fun fe=>by have:=fe.hi;lia
theorem sL{ds:List Pt}{i j:Nat}(hi:i<ds.length)(hj:j<ds.length)(ne:i≠j)(e:at' ds i=at' ds j):¬aF ds:=fun fe=>ne ((fD.mp fe).2.2.1 i j hi hj e)
theorem fU{A B:List Pt}{i:Nat}:at' (A++B) i=if i<A.length then at' A i else at' B (i-A.length):=by
 split
 ·rename_i h;rw[bb,bb,Z0,Z0,ZL h]
 ·rename_i h;rw[bb,bb,Z0,Z0,Y1 (by lia)]
theorem wv{cs:List Pt}{t i:Nat}(h:i<t):at' (cs.take t) i=at' cs i:=by
 rw[bb,bb,Z0,Z0,Yx h]
theorem vz{cs:List Pt}{t i:Nat}:at' (cs.drop t) i=at' cs (t+i):=by
 rw[bb,bb,Z0,Z0,YM]
theorem yL{cs:List Pt}{a t:Nat}(ha:a<cs.length)(ht:t<=cs.length):¬aF (cs.take t++[at' cs a]++cs.drop t):=by
 have lt:(cs.take t).length=t:=by rw[Zi];lia
 have l1:(cs.take t++[at' cs a]).length=t+1:=by rw[Z5,lt];rfl
 have l2:(cs.take t++[at' cs a]++cs.drop t).length=cs.length+1:=by rw[Z5,l1,Zu];lia
 have et:at' (cs.take t++[at' cs a]++cs.drop t) t=at' cs a:=by
  rw[fU,l1,if_pos (by lia),fU,lt,if_neg (by lia),Nat.sub_self];rfl
 by_cases c:a<t
 ·refine sL (i:=a) (j:=t) (by lia) (by lia) (by lia) ?_
  rw[et,fU,l1,if_pos (by lia),fU,lt,if_pos c,wv c]
 ·refine sL (i:=a+1) (j:=t) (by lia) (by lia) (by lia) ?_
  rw[et,fU,l1,if_neg (by lia),vz]
  congr 1;lia
theorem Dp{cs:List Pt}{a t:Nat}(ha:a<cs.length)(ht:t<cs.length)(ne:a≠t):¬aF (cs.take t++[at' cs a]++cs.drop (t+1)):=by
 have lt:(cs.take t).length=t:=by rw[Zi];lia
 have l1:(cs.take t++[at' cs a]).length=t+1:=by rw[Z5,lt];rfl
 have l2:(cs.take t++[at' cs a]++cs.drop (t+1)).length=cs.length:=by rw[Z5,l1,Zu];lia
 have et:at' (cs.take t++[at' cs a]++cs.drop (t+1)) t=at' cs a:=by
  rw[fU,l1,if_pos (by lia),fU,lt,if_neg (by lia),Nat.sub_self];rfl
 refine sL (i:=a) (j:=t) (by lia) (by lia) ne ?_
 by_cases c:a<t
 ·rw[et,fU,l1,if_pos (by lia),fU,lt,if_pos c,wv c]
 ·rw[et,fU,l1,if_neg (by lia),vz]
  congr 1;lia
theorem yS(x y u v:Int)(h:0<u):¬aF [(x+0*u,y+0*v),(x+2*u,y+2*v),(x+5*u,y+5*v)]:=fun fe=>by
 refine (fD.mp fe).2.2.2.1 ⟨1,(show 1<3 by decide),?_⟩
 show fu (x+2*u,y+2*v) (x+5*u,y+5*v) (x+0*u,y+0*v)=true;unfold fu;rw[ZA,beq_iff_eq,decide_eq_true_eq];refine⟨by unfold turn;dsimp only;grind,?_⟩
 have h1:0<u*u:=Int.mul_pos h h;have h2:0<=v*v:=by rcases Int.le_total 0 v with z|z;exact Int.mul_nonneg z z;exact Int.mul_nonneg_of_nonpos_of_nonpos z z
 have e:iN (x+2*u,y+2*v) (x+5*u,y+5*v) (x+0*u,y+0*v)=15*(u*u)+15*(v*v):=by unfold iN;dsimp only;grind
 rw[e];lia
theorem zQ(x y u v:Int)(h:0<u):¬aF [(x+0*u,y+0*v),(x+2*u,y+2*v),(x+5*u,y+5*v),(x+1*u,y+1*v)]:=fun fe=>by
 refine (fD.mp fe).2.2.2.1 ⟨1,(show 1<4 by decide),?_⟩
 show fu (x+2*u,y+2*v) (x+5*u,y+5*v) (x+1*u,y+1*v)=true;unfold fu;rw[ZA,beq_iff_eq,decide_eq_true_eq];refine⟨by unfold turn;dsimp only;grind,?_⟩
 have h1:0<u*u:=Int.mul_pos h h;have h2:0<=v*v:=by rcases Int.le_total 0 v with z|z;exact Int.mul_nonneg z z;exact Int.mul_nonneg_of_nonpos_of_nonpos z z
 have e:iN (x+2*u,y+2*v) (x+5*u,y+5*v) (x+1*u,y+1*v)=12*(u*u)+12*(v*v):=by unfold iN;dsimp only;grind
 rw[e];lia
theorem zK(x y A B:Int)(hA:0<A)(hB:0<B):¬aF [(x,y),(x+A,y+B),(x+A,y),(x,y+B)]:=fun fe=>by
 refine (fD.mp fe).2.2.2.2 ⟨0,2,(show 0<4 by decide),(show 2<4 by decide),by decide,(show nx 4 0≠2 by decide),(show nx 4 2≠0 by decide),?_⟩
 show cg (x,y) (x+A,y+B) (x+A,y) (x,y+B)=true;have ab:0<A*B:=Int.mul_pos hA hB;have m:∀{p q:Int},p=-(A*B)->q=A*B->p*q<0:=fun {p q} e1 e2=>by
  rw[e1,e2,Int.neg_mul]
  have:=Int.mul_pos ab ab
  lia
 unfold cg iK;have k1:turn (x,y) (x+A,y+B) (x+A,y)*turn (x,y) (x+A,y+B) (x,y+B)<0:=m (by unfold turn;dsimp only;grind) (by unfold turn;dsimp only;grind)
 have k2:turn (x+A,y) (x,y+B) (x,y)*turn (x+A,y) (x,y+B) (x+A,y+B)<0:=by
  rw[Int.mul_comm];exact m (by unfold turn;dsimp only;grind) (by unfold turn;dsimp only;grind)
 rw[Zt k1,Zt k2];simp
theorem viaP{G R:Prop}(main:R->G)(af:R):G:=main af
noncomputable def YP(te:TE)(σ:L2.St)(H:Hp)(cs:List Pt):Prop:=∀H1,au H H1->∀Q:VK,(∀r rg H2,au H1 H2->PLs H2 r rg cs->Q (.ref r) H2)->te σ H1 Q
theorem lq{K:Z3}{σ:L2.St}{H:Hp}{l:Addr}{rf:Nat->Addr}{cs:List Pt}{i t:Nat}{ti:TE}(hi:σ[i]?=some (some (.ref l)))(hp:PLs H l rf cs)(ht:t<=cs.length)(Gp:∀H1 (Q:VK),Q (.int (t:Int)) H1->ti σ H1 Q):YP (tSl (Ar K) (dz i) og (wa ti)) σ H (cs.take t):=by
 intro H1 s1 Q q;have hp1:=hp.mono s1;refine⟨_,hi,Gp _ _ ⟨_,rfl,l,_,rfl,SqL.of hp1.1,fun p hpn=>?_⟩⟩;have s2:=ao hpn (.lst (bj (aw cs.length rf) none (some (t:Int))));refine q p rf _ s2 (hp1.at_upd s2 ?_ fun j hj=>⟨j,?_,rfl,?_⟩)
 ·rw[aj,qU ht,Zi,Nat.min_eq_left ht]
 ·rw[Zi]at hj;lia
 ·rw[Zi]at hj;exact wv (by lia)
theorem oA{K:Z3}{σ:L2.St}{H:Hp}{l:Addr}{rf:Nat->Addr}{cs:List Pt}{i t:Nat}{ti:TE}(hi:σ[i]?=some (some (.ref l)))(hp:PLs H l rf cs)(Gp:∀H1 (Q:VK),Q (.int (t:Int)) H1->ti σ H1 Q):YP (tSl (Ar K) (dz i) (wa ti) og) σ H (cs.drop t):=by
 intro H1 s1 Q q;have hp1:=hp.mono s1;refine⟨_,hi,Gp _ _ ⟨_,rfl,l,_,rfl,SqL.of hp1.1,fun p hpn=>?_⟩⟩;have s2:=ao hpn (.lst (bj (aw cs.length rf) (some (t:Int)) none));refine q p (fun j=>rf (t+j)) _ s2 (hp1.at_upd s2 ?_ fun j hj=>⟨t+j,?_,rfl,vz⟩)
 ·rw[aj,jU,Zu]
 ·rw[Zu]at hj;lia
theorem ju{σ:L2.St}{H:Hp}{A B:List Pt}{ta tb:TE}(ha:YP ta σ H A)(hb:YP tb σ H B)(n:A.length+B.length<=1000):YP (tOp CJ ta tb) σ H (A++B):=by
 intro H1 s1 Q q;refine ha H1 s1 _ fun ra ga H2 s2 pa=>hb H2 (s1.trans s2) _ fun rb gb H3 s3 pb=>?_;have pa3:=pa.mono s3;refine⟨ra,rb,_,_,rfl,rfl,pa3.1,pb.1,by rw[av,av];exact aS n,fun p hpn=>?_⟩
 have s4:=ao hpn (.lst (aw A.length ga++aw B.length gb));exact q p _ _ (s2.trans (s3.trans s4)) (u3 pa3 pb hpn)
theorem xn{K:Z3}{σ:L2.St}{H:Hp}{l:Addr}{rf:Nat->Addr}{cs:List Pt}{i j a:Nat}(hi:σ[i]?=some (some (.ref l)))(hj:σ[j]?=some (some (.int (a:Int))))(hp:PLs H l rf cs)(ha:a<cs.length):YP (Dq (dG (tOp (y8 K) (dz i) (dz j)) j7)) σ H [at' cs a]:=by
 intro H1 s1 Q q;have hp1:=hp.mono s1;refine⟨_,hi,_,hj,l,_,_,_,rfl,rfl,SqL.of hp1.1,ef ha,aS (show 1<=1000 by decide),fun p hpn=>?_⟩
 have s2:=ao hpn (.lst [.ref (rf a)]);refine q p (fun _=>rf a) _ s2 ⟨aj,fun k hk=>?_⟩;have k0:k=0:=by have:k<1:=hk;lia
 subst k0;exact s2 _ _ (hp1.2 a ha)
noncomputable def sI:Sp:=fun vs H Q _=>∃(l:Addr) (rf:Nat->Addr) (cs:List Pt) (way:Int) (a t:Nat),vs=[.ref l,.int way,.int (a:Int),.int (t:Int)]/\PLs H l rf cs/\(∀p∈cs,(-100<=p.1/\p.1<=100)/\-100<=p.2/\p.2<=100)/\3<=cs.length/\cs.length<=12/\a<cs.length/\t<cs.length/\
 ∀r rg ds H',au H H'->PLs H' r rg ds->aJ ds->ds.length<=400->¬aF ds->Q (.ref r) H'
section
variable{P:Zv}{w:Zl}{K:Z3}{mg:Str->Option Value}{base:ZF}{f:Addr}{fd:Zf}
theorem mw:aD ["corners","way","at","to","x","y"] ["corners","way","at","to"] (aq jp):=.mk'
theorem Cp:(["k","y","x"]:List Str).Nodup:=by decide +kernel
theorem A7:(["k","x","y","to"]:List Str).Nodup:=by decide +kernel
set_option maxHeartbeats 1000000 in
theorem yv{n:Nat}(F:Fun K "_law_spoilt" "_law_spoilt" jp f fd)(E4:mg "range" = none):aI P w K mg base CX0 (n+1) f fd ["corners","way","at","to"] sI:=by
 refine F.ok mw (by rintro _ _ _ _⟨_,_,_,_,_,_,rfl,_⟩;rfl) fun E3 A outer s H vs Q E hr h=>?_
 obtain⟨l,rf,cs,way,a,t,rfl,hp,near,n3,FJ,ha,ht,q⟩:=h;refine⟨_,am (CG (ak aH (pv 0) (pv 2)) (mV (n:=2) rfl (bw (aM (i:=4) mw.nd rfl (UU rfl)) (bw (aM (i:=5) mw.nd rfl (UU rfl)) e8))))
  (am (aZ (aQ be (pv 1) ad) (ap (aC (bH bZ (pv 0) cN (bP (ai dv (pv 3) ad))))) aL)
  (am (aZ (aQ be (pv 1) ad) (ap (aC (ai dL (ai dL (bH bZ (pv 0) cN (bP (pv 2))) (bA (N':=["k","y","x"]) (own:=1) (ag:=[5,4]) rfl (aO.of (sc:=aq jp) (N0:=["corners","way","at","to","x","y"]) rfl rfl (by decide +kernel)) (eC rfl E4 (pa1 ad)) (fun _ _ _ _ _ _=>(aM (i:=0) Cp rfl (ZQ rfl))) (fun C cl fp aa s₂ H₂=>bQ) (fun _ _ _ _ _ _=>(dW (pa2 (ai a_ (ai a_ (pv 2) ad) (pv 0)) (pv 1)))))) (bH bZ (pv 0) (bP (pv 2)) cN)))) aL)
  (am (aZ (aQ be (pv 1) ad) (ap (aC (ai dL (ai dL (bH bZ (pv 0) cN (bP (pv 3))) (bK (pa1 (ak aH (pv 0) (pv 2))))) (bH bZ (pv 0) (bP (pv 3)) cN)))) aL)
  (am (aZ (PW.pt (gG (aQ be (pv 1) ad) (fN (aQ iS (pv 2) (pv 3))))) (ap (aC (ai dL (ai dL (bH bZ (pv 0) cN (bP (pv 3))) (bK (pa1 (ak aH (pv 0) (pv 2))))) (bH bZ (pv 0) (bP (ai a_ (pv 3) ad)) cN)))) aL)
  (am (aZ (aQ be (pv 1) ad) (ap (aC (bA (N':=["k","x","y","to"]) (own:=1) (ag:=[4,5,3]) rfl (aO.of (sc:=aq jp) (N0:=["corners","way","at","to","x","y"]) rfl rfl (by decide +kernel)) (bp (bH bZ (bK (pa4 ad ad ad ad)) cN (bP (ai a_ ad (ai dv (pv 3) ad))))) (fun _ _ _ _ _ _=>(aM (i:=0) A7 rfl (ZQ rfl))) (fun C cl fp aa s₂ H₂=>bQ) (fun _ _ _ _ _ _=>(dW (pa2 (ai a_ (pv 1) (ai a8 (pv 0) (ai a_ ad (pv 3)))) (ai a_ (pv 2) (ai a8 (pv 0) (pv 3))))))))) aL)
  (ap (aC (bK (pa4 (dW (pa2 (pv 4) (pv 5))) (dW (pa2 (ai a_ (ai a_ (pv 4) ad) (pv 3)) (ai a_ (ai a_ (pv 5) ad) (pv 2)))) (dW (pa2 (ai a_ (ai a_ (pv 4) ad) (pv 3)) (pv 5))) (dW (pa2 (pv 4) (ai a_ (ai a_ (pv 5) ad) (pv 2))))))))))))),?_⟩
 have pA:=hp.2 a ha;have nA:=near _ (b7 ha);have coC:∀p∈cs,Co p:=fun p hp=>by have:=near p hp;unfold Co;lia
 refine⟨_,rfl,_,rfl,l,_,_,_,rfl,rfl,SqL.of hp.1,ef ha,_,_,rfl,SqT.of pA,rfl,_,_,rfl,_,_,rfl,rfl,[_,_,_,_,_,_],rfl,?_⟩;generalize eX:(at' cs a).1=X at *
 generalize eY:(at' cs a).2=Y at *
 refine⟨_,rfl,rfl,_,rfl,?_⟩;refine aU (fun c=>?_) (fun c=>⟨[_,_,_,_,_,_],rfl,?_⟩)
 ·unfold jJ;have e3:(t:Int)%3=((t%3:Nat):Int):=by lia
  refine lq (i:=0) (t:=t%3) rfl hp (by lia) (fun H1 Q h=>⟨_,rfl,_,_,rfl,rfl,(by decide),by rw[e3];exact h⟩) H (au.refl _) _ fun r rg H2 s2 p2=>q r rg _ H2 s2 p2 (eN fun p hp=>coC p (X0 hp)) ?_ (y9 ?_)
  ·rw[Zi];lia
  ·rw[Zi];lia
 refine⟨_,rfl,rfl,_,rfl,?_⟩;refine aU (fun c=>?_) (fun c=>⟨[_,_,_,_,_,_],rfl,?_⟩)
 ·unfold jJ;have lA:(cs.take a).length=a:=by rw[Zi];lia
  refine ju (ju (lq (i:=0) (t:=a) rfl hp (by lia) (fun H1 Q h=>⟨_,rfl,h⟩)) (B:=(Z4 14).map fun (k:Nat)=>((X+90+(0+(k:Int)),Y):Pt)) (fun H1 s1 Q' q'=>?_) (by rw[lA,Z6,Zd];lia)) (oA (i:=0) (t:=a) rfl hp (fun H1 Q h=>⟨_,rfl,h⟩)) (by rw[Z5,lA,Z6,Zd,Zu];lia) H (au.refl _) _ fun r rg H2 s2 p2=>q r rg _ H2 s2 p2 (eN fun p hp=>?_) ?_ (Cg ?_)
  ·refine⟨_,rfl,by decide,by decide,14,fun i ys H'=>PtW H1 (fun (k:Nat)=>(X+90+(0+(k:Int)),Y)) i ys H',aS (by decide),PtW.nil l,fun ys H' hW=>⟨by show _<=_;decide,fun D hD=>?_⟩,fun i ys H' hi hW=>⟨by show _<_;lia,fun x H2 hy=>?_⟩⟩
   ·obtain⟨s2,ts,h2⟩:=hW.fin hD;exact q' D ts _ s2 h2
   ·obtain⟨rfl,rfl⟩:=hy;exact⟨dC (by decide),c9 ⟨_,rfl,_,_,rfl,rfl,_,rfl,_,_,rfl,rfl,_,rfl,_,_,rfl,fun t H4 s4 p4=>hW.snoc s4 p4⟩⟩
  ·rcases ZE.mp hp with z|z
   ·rcases ZE.mp z with z|z
    ·exact coC p (X0 z)
    ·obtain⟨k,hk,rfl⟩:=Y9.mp z
     have:=Zy.mp hk
     unfold Co;dsimp only;lia
   ·exact coC p (Xl z)
  ·rw[Z5,Z5,lA,Z6,Zd,Zu];lia
  ·rw[Z5,Z5,lA,Z6,Zd,Zu];lia
 refine⟨_,rfl,rfl,_,rfl,?_⟩;have lT:(cs.take t).length=t:=by rw[Zi];lia
 have e1:[at' cs a].length=1:=rfl;refine aU (fun c=>?_) (fun c=>⟨[_,_,_,_,_,_],rfl,?_⟩)
 ·unfold jJ;refine ju (ju (lq (i:=0) (t:=t) rfl hp (by lia) (fun H1 Q h=>⟨_,rfl,h⟩)) (xn (i:=0) (j:=2) rfl rfl hp ha) (by rw[lT,e1];lia)) (oA (i:=0) (t:=t) rfl hp (fun H1 Q h=>⟨_,rfl,h⟩)) (by rw[Z5,lT,e1,Zu];lia) H (au.refl _) _ fun r rg H2 s2 p2=>q r rg _ H2 s2 p2 (eN fun p hp=>?_) ?_ (yL ha (by lia))
  ·rcases ZE.mp hp with z|z
   ·rcases ZE.mp z with z|z
    ·exact coC p (X0 z)
    ·rw[Zj.mp z];exact coC _ (b7 ha)
   ·exact coC p (Xl z)
  ·rw[Z5,Z5,lT,e1,Zu];lia
 apply viaP
 ·intro af;refine⟨_,rfl,rfl,_,rfl,?_⟩;refine aU (fun c4=>?_) (fun c4=>fk af);refine⟨_,rfl,_,rfl,rfl,_,rfl,?_⟩;refine aU (fun c5=>?_) (fun c5=>af);have ne:a≠t:=fun e=>by subst e;simp at c5
  unfold jJ;refine ju (ju (lq (i:=0) (t:=t) rfl hp (by lia) (fun H1 Q h=>⟨_,rfl,h⟩)) (xn (i:=0) (j:=2) rfl rfl hp ha) (by rw[lT,e1];lia)) (oA (i:=0) (t:=t+1) rfl hp (fun H1 Q h=>⟨_,rfl,_,_,rfl,rfl,h⟩)) (by rw[Z5,lT,e1,Zu];lia) H (au.refl _) _ fun r rg H2 s2 p2=>q r rg _ H2 s2 p2 (eN fun p hp=>?_) ?_ (Dp ha ht ne)
  ·rcases ZE.mp hp with z|z
   ·rcases ZE.mp z with z|z
    ·exact coC p (X0 z)
    ·rw[Zj.mp z];exact coC _ (b7 ha)
   ·exact coC p (Xl z)
  ·rw[Z5,Z5,lT,e1,Zu];lia
 refine⟨[_,_,_,_,_,_],rfl,?_⟩;refine⟨_,rfl,rfl,_,rfl,?_⟩;refine aU (fun c=>?_) (fun c=>⟨[_,_,_,_,_,_],rfl,?_⟩)
 ·unfold jJ;refine⟨aS (show 4<=1000 by decide),fun p0 hp0=>?_⟩
  have s0:=ao hp0 (.lst [.int 0,.int 2,.int 5,.int 1]);have h0:(upd H p0 (.lst [.int 0,.int 2,.int 5,.int 1])) p0=some (.lst [.int 0,.int 2,.int 5,.int 1]):=aj;generalize upd H p0 (.lst [.int 0,.int 2,.int 5,.int 1])=H0 at *
  refine⟨_,rfl,_,_,rfl,rfl,(by decide),_,_,rfl,rfl,_,rfl,p0,_,rfl,SqL.of h0,fun p1 hp1=>?_⟩
  obtain⟨ks,ek,hk5,fin⟩:∃ks:List Int,bj [V.int 0,.int 2,.int 5,.int 1] none (some (3+(t:Int)%2))=ks.map V.int/\(∀k∈ks,0<=k/\k<=5)/\(ks.length<=4/\¬aF ((Z4 ks.length).map fun i=>((X+ks.getD i 0*(3+(t:Int)),Y+ks.getD i 0*(t:Int)):Pt))):=by
   rcases Int.emod_two_eq (t:Int) with e|e
   ·rw[e];refine⟨[0,2,5],rfl,by decide,by decide,?_⟩
    exact yS X Y (3+(t:Int)) (t:Int) (by lia)
   ·rw[e];refine⟨[0,2,5,1],rfl,by decide,by decide,?_⟩
    exact zQ X Y (3+(t:Int)) (t:Int) (by lia)
  rw[ek];have s1:=ao hp1 (.lst (ks.map V.int));have h1:(upd H0 p1 (.lst (ks.map V.int))) p1=some (.lst (ks.map V.int)):=aj;generalize upd H0 p1 (.lst (ks.map V.int))=H1 at *
  have bk:∀i,i<ks.length->0<=ks.getD i 0/\ks.getD i 0<=5:=fun i hi=>hk5 _ (by rw[Z0,Z2 hi];exact YC hi)
  have gk:∀i,i<ks.length->(ks.map V.int)[i]?=some (.int (ks.getD i 0)):=fun i hi=>by rw[Zn,Z0,Z2 hi];rfl
  refine⟨p1,rfl,⟨_,SqL.of h1⟩,?_⟩;refine⟨ks.length,fun i ys H'=>PtW H1 (fun i=>(X+ks.getD i 0*(3+(t:Int)),Y+ks.getD i 0*(t:Int))) i ys H',aS (by lia),PtW.nil l,fun ys H' hW=>⟨⟨_,SqL.of (hW.1 _ _ h1),by rw[Z6];exact Nat.le_refl _⟩,fun D hD=>?_⟩,fun i ys H' hi hW=>⟨⟨_,_,SqL.of (hW.1 _ _ h1),gk i hi⟩,fun x H2 hy=>?_⟩⟩
  ·obtain⟨s2,ts,h2⟩:=hW.fin hD;refine q D ts _ _ (s0.trans (s1.trans s2)) h2 (eN fun p hp=>?_) (by rw[Z6,Zd];lia) fin.2
   obtain⟨i,hi,rfl⟩:=Y9.mp hp;have hb:=bk i (Zy.mp hi);have m1:=gD (A:=5) (B:=1000) (x:=ks.getD i 0) (y:=3+(t:Int)) ⟨by lia,by lia⟩ ⟨by lia,by lia⟩
   have m2:=gD (A:=5) (B:=1000) (x:=ks.getD i 0) (y:=(t:Int)) ⟨by lia,by lia⟩ ⟨by lia,by lia⟩
   unfold Sm at m1 m2;unfold Co;dsimp only;lia
  ·obtain⟨rfl,hy⟩:=hy;have hx:=hy _ (SqL.of (hW.1 _ _ h1));rw[gk i hi]at hx;cases hx;have hb:=bk i hi;exact⟨dC (by decide),c9 ⟨_,rfl,_,rfl,_,rfl,_,_,rfl,rfl,_,_,rfl,rfl,⟨bv (by lia) (by lia),bv (by lia) (by lia)⟩,_,_,rfl,rfl,_,rfl,_,rfl,_,rfl,_,_,rfl,rfl,⟨bv (by lia) (by lia),bv (by lia) (by lia)⟩,_,_,rfl,rfl,_,_,rfl,fun t H4 s4 p4=>hW.snoc s4 p4⟩⟩
 ·unfold jJ;refine⟨_,rfl,_,rfl,_,_,rfl,fun t1 H1 s1 p1=>?_⟩;refine⟨_,rfl,_,_,rfl,rfl,_,rfl,_,_,rfl,rfl,_,rfl,_,_,rfl,rfl,_,rfl,_,_,rfl,rfl,_,_,rfl,fun t2 H2 s2 p2=>?_⟩;refine⟨_,rfl,_,_,rfl,rfl,_,rfl,_,_,rfl,rfl,_,rfl,_,_,rfl,fun t3 H3 s3 p3=>?_⟩;refine⟨_,rfl,_,rfl,_,_,rfl,rfl,_,rfl,_,_,rfl,rfl,_,_,rfl,fun t4 H4 s4 p4=>?_⟩;refine⟨aS (show 4<=1000 by decide),fun p hp=>?_⟩
  have s5:=ao hp (.lst [.ref t1,.ref t2,.ref t3,.ref t4]);refine q p (fun i=>if i=0 then t1 else if i=1 then t2 else if i=2 then t3 else t4) [(X,Y),(X+(4+(t:Int)),Y+(4+(a:Int))),(X+(4+(t:Int)),Y),(X,Y+(4+(a:Int)))] _ (s1.trans (s2.trans (s3.trans (s4.trans s5)))) ⟨aj,fun i hi=>?_⟩ (eN fun p hp=>?_) (show 4<=400 by decide) (zK X Y _ _ (by lia) (by lia))
  ·have hi:i<4:=hi;have ex:∀z:Int,z+4+(t:Int)=z+(4+(t:Int)):=fun z=>by lia
   have ey:∀z:Int,z+4+(a:Int)=z+(4+(a:Int)):=fun z=>by lia
   rw[ex,ey]at p2;rw[ex]at p3;rw[ey]at p4;rcases i with _|_|_|_|i
   ·exact s5 _ _ (s4 _ _ (s3 _ _ (s2 _ _ p1)))
   ·exact s5 _ _ (s4 _ _ (s3 _ _ p2))
   ·exact s5 _ _ (s4 _ _ p3)
   ·exact s5 _ _ p4
   ·lia
  ·simp only[Zz,Zr,or_false]at hp;unfold Co;rcases hp with e|e|e|e<;>subst e<;>dsimp only<;>lia
end
end FD
end
section
namespace FD
open PySem L2 FF
noncomputable abbrev zn:Stmt:=top 70
noncomputable def qo(K:Z3):Sp:=fun vs H Q _=>∃(a:Addr) (ns:List Int),vs=[.ref a]/\SqL K H a (ns.map V.int)/\ns.length<=63/\∀H',Q (.bl true) H'
theorem El{α:Type}{G:Prop}{J:L2.St->Hp->Prop}{Pm:α->Hp->Prop}(mk:α->L2.St)(main:(∀a c,Pm a c->J (mk a) c)->G)(af:∀a c,Pm a c->J (mk a) c):G:=main af
theorem uF{α:Type}{c:TT}{t e u:TS}{D:g9}{σ:L2.St}{H:Hp}{Pm:α->Hp->Prop}(mk:α->L2.St)(main:(∀a h,Pm a h->∃σ'',σ''=mk a/\u D σ'' h)->vN c t e {D with nx:=fun σ' H'=>∃σ'',σ''=σ'/\u D σ'' H'} σ H)(af:∀a h,Pm a h->u D (mk a) h):AH (vN c t e) u D σ H:=main fun a h p=>⟨_,rfl,af a h p⟩
theorem viaQ{G R C:Prop}(main:(C->R)->G)(af:C->R):G:=main af
noncomputable def Due(i:Nat)(cs:List Pt)(T:Tn)(d:Str):Prop:=(¬aF cs->d = "fence")/\(aF cs->i=10->isT T=false->d = "turning")/\(aF cs->i=11->60<dO cs->d = "wide")/\(OKK i cs T->d = "done")
theorem yJ{cs:List Pt}(G:Good cs)(C:iW cs):∃ts,bM (bW cs) ts:=by
 unfold bW
 have:=G.ar
 by_cases c:0<area cs
 ·rw[if_pos c];exact C.1 c
 ·rw[if_neg c];exact C.2 (by lia)
theorem ya{cs:List Pt}(F:aF cs):fm (bW cs):=by
 have d:fm cs:=(fD.mp F).2.2.1;unfold bW
 split
 ·exact d
 ·exact rC d
theorem vW{c:Int}{n:Nat}(h:0<n):∃k:Nat,(k:Int)=c%(n:Int)/\k<n:=by
 have h1:=Int.emod_nonneg c (show (n:Int)≠0 by lia)
 have h2:=Int.emod_lt_of_pos c (show 0<(n:Int) by lia)
 exact⟨(c%(n:Int)).toNat,by lia,by lia⟩
theorem mI{X:Cx}{Es:List ZN}{k}{pos:Pos}{es:List ZN}{te:TE}{t:TA}(ha:PE X (.Tuple Es k pos) te)(hr:PA X es t):PA X (.Tuple Es k pos::es) (dG te t):=da ha hr
theorem qm{X:Cx}{a b c d e f:Int}{j1 j2 j3 j4 j5 j6 x1}{p1 p2 p3 p4 p5 p6 pos:Pos}:
  PE X (.Tuple [.Constant (.int a) j1 p1,.Constant (.int b) j2 p2,.Constant (.int c) j3 p3,.Constant (.int d) j4 p4,.Constant (.int e) j5 p5,.Constant (.int f) j6 p6] x1 pos) (fun σ H Q=>∀t,H t=none->Q (.ref t) (upd H t (.tup [.int a,.int b,.int c,.int d,.int e,.int f]))):=
 fi (b8 (da ad (da ad (pa4 ad ad ad ad)))) fun σ H Q h=>⟨aS (show 6<=1000 by decide),h⟩
section
variable{P:Zv}{w:Zl}{K:Z3}{mg:Str->Option Value}{base:ZF}{f:Addr}{fd:Zf}
theorem fP:aD ["script","good","at","to","way","corners","six","which","due"] ["script"] (aq zn):=.mk'
set_option maxHeartbeats 400000 in
theorem Da(F:Fun K "law" "law" zn f fd)(cC:Cal P w K mg base 1 "_law_cell_at" ["script","k"] (nq K))(cB:Cal P w K mg base 3 "_law_fence_by" ["script","first"] (o_ K))(cS:Cal P w K mg base 1 "_law_sum" ["corners"] wM)(cP:Cal P w K mg base 1 "_law_spoilt" ["corners","way","at","to"] sI)(cT:Cal P w K mg base 10 "_law_tried" ["which","corners","good","six"] u8)
  (Ew:mg "abs" = none)(E5:mg "len" = none)(E9:mg "list" = none)(E4:mg "range" = none):aI P w K mg base CX0 11 f fd ["script"] (qo K):=by
 refine F.ok fP (by rintro _ _ _ _⟨a,ns,rfl,_⟩;rfl) fun E3 A outer s H vs Q E hr h=>?_
 obtain⟨a,ns,rfl,hS0,h63,q⟩:=h;have hS:Scr K H a ns:=⟨hS0,h63⟩;refine⟨_,am (aE (i:=1) fP.nd (ay cB hr (pa2 (pv 0) ad)))
  (am (aE (i:=2) fP.nd (ai dv (ay cC hr (pa2 (pv 0) ad)) (aN aW rfl E5 ZJ (pa1 (pv 1)))))
  (am (aE (i:=3) fP.nd (ai dv (ay cC hr (pa2 (pv 0) ad)) (aN aW rfl E5 ZJ (pa1 (pv 1)))))
  (am (aE (i:=4) fP.nd (ai dv (ay cC hr (pa2 (pv 0) ad)) ad))
  (am (aE (i:=5) fP.nd (fC i6 rfl E9 Xx (pa1 (pv 1))))
  (am (aZ (PW.pt (gG (aQ gX (pv 4) ad) (fN (aQ CU (pv 4) ad)))) (ap (aE (i:=5) fP.nd (ay cP hr (pa4 (pv 1) (pv 4) (pv 2) (pv 3))))) aL)
  (@am _ _ _ _ _ (@yy _ _ 6 _ _ _ _ fP.nd rfl (ZQ rfl) (@AL _ _ _ _ _ _ _ aH (@bK _ _ _ _ (@mI _ _ _ _ _ _ _ qm (@mI _ _ _ _ _ _ _ qm (@mI _ _ _ _ _ _ _ qm (@mI _ _ _ _ _ _ _ qm iI)))) ) (ai dv (ay cC hr (pa2 (pv 0) ad)) ad) (fun _ _=>rfl)) (by rfl) (ZQ rfl))
  (am (gU Yb rfl (eC rfl E4 (pa1 ad)) (aM (i:=7) fP.nd rfl (ZQ rfl)) (am (aE (i:=8) fP.nd b6)
   (am (aZ (PW.pt (jX (aQ be (pv 4) ad) (iO (aQ be (pv 4) ad)))) (am (aE (i:=8) fP.nd b6)
    (am (aZ (PW.pt (gG (aQ be (pv 7) ad) (fN (aQ iS (aN gM rfl Ew YV (pa1 (ai bf (ai a8 (ak ax (pv 6) ad) (ak ax (pv 6) ad)) (ai a8 (ak ax (pv 6) ad) (ak ax (pv 6) ad))))) ad)))) (ap (aE (i:=8) fP.nd b6)) aL)
    (ap (aZ (PW.pt (gG (aQ be (pv 7) ad) (fN (aQ gX (aN gM rfl Ew YV (pa1 (ay cS hr (pa1 (pv 1))))) ad)))) (ap (aE (i:=8) fP.nd b6)) aL)))) aL)
   (ap (aZ (aQ iS (ay cT hr (pa4 (pv 7) (fC i6 rfl E9 Xx (pa1 (pv 5))) (fC i6 rfl E9 Xx (pa1 (pv 1))) (pv 6))) (pv 8)) (ap (aC eJ)) aL)))))
  (ap (aC eJ))))))))),?_⟩
 have Gd:=rN ns 0;have Nd:=vj ns 0;have Cl:=pZ ns 0;refine⟨_,rfl,a,ns,0,rfl,hS,fun r0 rf0 H1 s1 hP1=>⟨[_,_,_,_,_,_,_,_,_],rfl,?_⟩⟩;generalize du ns 0=c0 at *
 have fe:=Gd.fe;have l3:=fe.lo;have l12:=fe.hi;have co0:aJ c0:=eN fun p hp=>DV (Nd p hp);obtain⟨ts,hc⟩:=yJ Gd Cl;have di:=ya fe;refine⟨_,rfl,a,ns,4,rfl,hS.mono s1,_,rfl,r0,_,rfl,.inl (SqL.of hP1.1),?_⟩;rw[av];refine⟨_,_,rfl,rfl,by lia,[_,_,_,_,_,_,_,_,_],rfl,?_⟩
 obtain⟨at_,eat,hat⟩:=vW (c:=cell ns 4) (show 0<c0.length by lia)
 rw[<-eat];refine⟨_,rfl,a,ns,5,rfl,hS.mono s1,_,rfl,r0,_,rfl,.inl (SqL.of hP1.1),?_⟩;rw[av];refine⟨_,_,rfl,rfl,by lia,[_,_,_,_,_,_,_,_,_],rfl,?_⟩
 obtain⟨G6,eto,hto⟩:=vW (c:=cell ns 5) (show 0<c0.length by lia)
 rw[<-eto];refine⟨_,rfl,a,ns,6,rfl,hS.mono s1,_,_,rfl,rfl,(show (0:Int)<8 by decide),[_,_,_,_,_,_,_,_,_],rfl,?_⟩
 have w0:=Int.emod_nonneg (cell ns 6) (show (8:Int)≠0 by decide)
 have w8:=Int.emod_lt_of_pos (cell ns 6) (show (0:Int)<8 by decide)
 generalize cell ns 6%8=way at *
 refine⟨_,rfl,r0,rf0,c0,rfl,hP1,fun h H2 s2 hC=>⟨[_,_,_,_,_,_,_,_,_],rfl,?_⟩⟩;have hP2:=hP1.mono s2;have s12:=s1.trans s2;apply El (α:=Addr) (Pm:=fun r H3=>au H2 H3/\∃rf cs,PLs H3 r rf cs/\aJ cs/\cs.length<=400/\(way=0\/way=7->cs=c0)/\(0<way/\way<7->¬aF cs)) (mk:=fun r=>[some (.ref a),some (.ref r0),some (.int (at_:Int)),some (.int (G6:Int)),some (.int way),some (.ref r),none,none,none])
 ·intro af;have keep:¬(0<way/\way<7)->_:=fun hw=>af h H2 ⟨au.refl _,rf0,c0,hC,co0,by lia,fun _=>rfl,fun z=>absurd z hw⟩
  refine⟨_,rfl,_,_,rfl,rfl,_,rfl,?_⟩;refine aU (fun c=>?_) (fun c=>?_);rotate_left
  ·refine fk (keep fun z=>c (Zt z.1))
  ·refine⟨_,rfl,_,_,rfl,rfl,_,rfl,?_⟩;refine aU (fun c2=>?_) (fun c2=>keep fun z=>c2 (Zt z.2));refine⟨_,rfl,_,rfl,_,rfl,_,rfl,r0,rf0,c0,way,at_,G6,rfl,hP2,(fun p hp=>Nd p hp),l3,l12,hat,hto,fun r rg ds H3 s3 p3 co3 n4 nf=>af r H3 ⟨s3,rg,ds,p3,co3,n4,?_,fun _=>nf⟩⟩;intro z;have z1:=Zx c;have z2:=Zx c2;lia
 rintro r H3 ⟨s3,rf,cs,hP3,co3,n4,ew,nw⟩;have s13:=s12.trans s3;have hG3:=hP2.mono s3;refine⟨[_,_,_,_,_,_,_,_,_],rfl,?_⟩;refine fun p1 hp1=>?_;have sx1:=ao hp1 (.tup [.int 1,.int 0,.int 0,.int 1,.int 5,.int 7]);have hx1:(upd H3 p1 (.tup [.int 1,.int 0,.int 0,.int 1,.int 5,.int 7])) p1=some (.tup [.int 1,.int 0,.int 0,.int 1,.int 5,.int 7]):=aj;generalize upd H3 p1 (.tup [.int 1,.int 0,.int 0,.int 1,.int 5,.int 7])=Ha at *
 refine fun p2 hp2=>?_;have sx2:=ao hp2 (.tup [.int 2,.int 0,.int 0,.int 1,.int 0,.int 0]);have hx2:(upd Ha p2 (.tup [.int 2,.int 0,.int 0,.int 1,.int 0,.int 0])) p2=some (.tup [.int 2,.int 0,.int 0,.int 1,.int 0,.int 0]):=aj;generalize upd Ha p2 (.tup [.int 2,.int 0,.int 0,.int 1,.int 0,.int 0])=Hb at *
 refine fun p3 hp3=>?_;have sx3:=ao hp3 (.tup [.int 0,.int 0,.int 0,.int 0,.int 0,.int 0]);have hx3:(upd Hb p3 (.tup [.int 0,.int 0,.int 0,.int 0,.int 0,.int 0])) p3=some (.tup [.int 0,.int 0,.int 0,.int 0,.int 0,.int 0]):=aj;generalize upd Hb p3 (.tup [.int 0,.int 0,.int 0,.int 0,.int 0,.int 0])=Hc at *
 refine fun p4 hp4=>?_;have sx4:=ao hp4 (.tup [.int 0,.int 1,.int 1,.int 0,.int 0,.int 0]);have hx4:(upd Hc p4 (.tup [.int 0,.int 1,.int 1,.int 0,.int 0,.int 0])) p4=some (.tup [.int 0,.int 1,.int 1,.int 0,.int 0,.int 0]):=aj;generalize upd Hc p4 (.tup [.int 0,.int 1,.int 1,.int 0,.int 0,.int 0])=Hd at *
 refine⟨aS (show 4<=1000 by decide),fun L hL=>?_⟩
 have sx5:=ao hL (.lst [.ref p1,.ref p2,.ref p3,.ref p4]);have hL5:(upd Hd L (.lst [.ref p1,.ref p2,.ref p3,.ref p4])) L=some (.lst [.ref p1,.ref p2,.ref p3,.ref p4]):=aj;generalize upd Hd L (.lst [.ref p1,.ref p2,.ref p3,.ref p4])=H4 at *
 have s34:=sx1.trans (sx2.trans (sx3.trans (sx4.trans sx5)));obtain⟨k4,ek4,hk4⟩:=vW (c:=cell ns 7) (show 0<4 by decide)
 have ek4:(k4:Int)=cell ns 7%4:=ek4;obtain⟨tu,T,eT,hT,bT⟩:∃tu T,atI [V.ref p1,.ref p2,.ref p3,.ref p4] (k4:Int)=some (.ref tu)/\TnA H4 tu T/\i9 T:=by
  have B:∀n:Int,-10<=n->n<=10->Sm (10^200) n:=fun n h1 h2=>⟨by lia,by lia⟩
  rcases k4 with _|_|_|_|k4
  ·exact⟨p1,⟨1,0,0,1,5,7⟩,c8 (j:=0) rfl,(sx2.trans (sx3.trans (sx4.trans sx5))) _ _ hx1,B _ (by decide) (by decide),B _ (by decide) (by decide),B _ (by decide) (by decide),B _ (by decide) (by decide),B _ (by decide) (by decide),B _ (by decide) (by decide)⟩
  ·exact⟨p2,⟨2,0,0,1,0,0⟩,c8 (j:=1) rfl,(sx3.trans (sx4.trans sx5)) _ _ hx2,B _ (by decide) (by decide),B _ (by decide) (by decide),B _ (by decide) (by decide),B _ (by decide) (by decide),B _ (by decide) (by decide),B _ (by decide) (by decide)⟩
  ·exact⟨p3,⟨0,0,0,0,0,0⟩,c8 (j:=2) rfl,(sx4.trans sx5) _ _ hx3,B _ (by decide) (by decide),B _ (by decide) (by decide),B _ (by decide) (by decide),B _ (by decide) (by decide),B _ (by decide) (by decide),B _ (by decide) (by decide)⟩
  ·exact⟨p4,⟨0,1,1,0,0,0⟩,c8 (j:=3) rfl,sx5 _ _ hx4,B _ (by decide) (by decide),B _ (by decide) (by decide),B _ (by decide) (by decide),B _ (by decide) (by decide),B _ (by decide) (by decide),B _ (by decide) (by decide)⟩
  ·lia
 have s14:=s13.trans s34;refine⟨_,rfl,a,ns,7,rfl,hS.mono s14,_,_,rfl,rfl,(show (0:Int)<4 by decide),?_⟩
 rw[<-ek4];refine⟨L,_,_,_,rfl,rfl,SqL.of hL5,eT,[_,_,_,_,_,_,_,_,_],rfl,?_⟩;have hP4:=hP3.mono s34;have hG4:=hG3.mono s34;clear hx1 hx2 hx3 hx4 hL5 sx1 sx2 sx3 sx4 sx5 hp1 hp2 hp3 hp4 hL eT ek4 hk4 hP3 hG3 hP2 hP1 hC;refine⟨_,rfl,by decide,by decide,?_⟩
 refine iR (lo:=0) (n:=(12:Int).toNat) (fun (i:Nat) (σ:L2.St) (H5:Hp)=>∃v7 v8,σ=[some (.ref a),some (.ref r0),some (.int (at_:Int)),some (.int (G6:Int)),some (.int way),some (.ref r),some (.ref tu),v7,v8]/\au H4 H5) ⟨none,none,rfl,au.refl _⟩ ?_ ?_;rotate_left
 ·rintro σ H5 ⟨v7,v8,rfl,s5⟩;exact⟨[_,_,_,_,_,_,_,_,_],rfl,q H5⟩
 ·rintro i σ H5 hi ⟨v7,v8,rfl,s5⟩;have hi12:i<12:=hi;have i0:(0:Int)+(i:Int)=(i:Int):=by lia
  rw[i0];refine⟨[_,_,_,_,_,_,_,_,_],rfl,?_⟩;have hP5:=hP4.mono s5;have hG5:=hG4.mono s5;have hT5:TnA H5 tu T:=s5 _ _ hT;refine uF (α:=Str) (Pm:=fun d H6=>au H5 H6/\Due i cs T d) (fun d=>[some (.ref a),some (.ref r0),some (.int (at_:Int)),some (.int (G6:Int)),some (.int way),some (.ref r),some (.ref tu),some (.int (i:Int)),some (.str d)]) ?_ ?_
  ·intro af;apply viaQ (C:=way=0\/way=7)
   ·intro thn;refine⟨_,rfl,rfl,_,rfl,?_⟩;refine aU (fun c=>c9 (thn (.inl (by simpa using c)))) (fun c=>?_)
    refine⟨_,rfl,rfl,_,rfl,?_⟩;refine aU (fun c2=>thn (.inr (by simpa using c2))) (fun c2=>?_)
    have h1:way≠0:=fun e=>c (Zt (Y_ V.int e));have h2:way≠7:=fun e=>c2 (Zt (Y_ V.int e));have nf:¬aF cs:=nw (by lia)
    exact af "fence" H5 ⟨au.refl _,(fun _=>rfl),(fun fe=>absurd fe nf),(fun fe=>absurd fe nf),fun ok=>absurd ok.1 nf⟩
   intro hw;have ecs:=ew hw;have feC:aF cs:=by rw[ecs];exact fe
   refine⟨[_,_,_,_,_,_,_,_,_],rfl,?_⟩;refine uF (α:=Str) (Pm:=fun d H6=>H6=H5/\(i=10/\isT T=false->d = "turning")/\(¬(i=10/\isT T=false)->d = "done")) (fun d=>[some (.ref a),some (.ref r0),some (.int (at_:Int)),some (.int (G6:Int)),some (.int way),some (.ref r),some (.ref tu),some (.int (i:Int)),some (.str d)]) ?_ ?_
   ·intro rest1;refine⟨_,rfl,rfl,_,rfl,?_⟩;refine aU (fun c=>?_) (fun c=>?_);rotate_left
    ·have n10:i≠10:=fun e=>by subst e;exact c (Zt rfl)
     exact fk (rest1 "done" H5 ⟨rfl,(fun z=>absurd z.1 n10),fun _=>rfl⟩)
    ·have e10:i=10:=by have:=Zx c;injection this with e;lia
     obtain⟨h1,h2,h3,h4,h5,h6⟩:=id bT;refine⟨_,rfl,tu,_,_,_,rfl,rfl,SqT.of hT5,zI,_,rfl,tu,_,_,_,rfl,rfl,SqT.of hT5,Ag,_,_,rfl,rfl,⟨eV h1,eV h4⟩,_,rfl,tu,_,_,_,rfl,rfl,SqT.of hT5,Ay,_,rfl,tu,_,_,_,rfl,rfl,SqT.of hT5,zB,_,_,rfl,rfl,⟨eV h2,eV h3⟩,_,_,rfl,rfl,_,rfl,rfl,_,rfl,?_⟩;have dt:T.det=T.a*T.d-T.b*T.c:=rfl;rw[<-dt];refine aU (fun c2=>?_) (fun c2=>?_)
     ·have nI:isT T=false:=by
       unfold isT;refine YJ fun z=>?_;rw[Zt (Y_ V.int (ot.mpr z))]at c2;cases c2
      exact rest1 "turning" H5 ⟨rfl,(fun _=>rfl),fun z=>absurd ⟨e10,nI⟩ z⟩
     ·have yI:isT T=true:=by
       unfold isT;refine Zt ?_;have c':decide (V.int (if T.det<0 then -T.det else T.det)=V.int 1)=true:=by
        cases z:decide (V.int (if T.det<0 then -T.det else T.det)=V.int 1) with
        |true=>rfl
        |false=>rw[z]at c2;exact absurd rfl c2
       exact ot.mp (V.int.inj (Zx c'))
      exact rest1 "done" H5 ⟨rfl,(fun z=>by rw[yI]at z;cases z.2),fun _=>rfl⟩
   rintro d H6 ⟨rfl,d1,d2⟩;have nar:dO cs=dO c0:=by rw[ecs]
   have fin:∀e:Str,((i=11/\60<dO cs)/\e = "wide")\/(¬(i=11/\60<dO cs)/\e=d)->Due i cs T e:=fun e he=>by
    refine⟨fun nf=>absurd feC nf,fun _ z1 z2=>?_,fun _ z1 z2=>?_,fun ok=>?_⟩
    ·rcases he with ⟨⟨y,_⟩,_⟩|⟨_,y⟩
     ·lia
     ·rw[y];exact d1 ⟨z1,z2⟩
    ·rcases he with ⟨_,y⟩|⟨y,_⟩
     ·exact y
     ·exact absurd ⟨z1,z2⟩ y
    ·rcases he with ⟨y,_⟩|⟨_,y⟩
     ·exact absurd y ok.2.2
     ·rw[y];exact d2 ok.2.1
   refine⟨_,rfl,rfl,_,rfl,?_⟩;refine aU (fun c=>?_) (fun c=>?_)
   ·have e11:i=11:=by have:=Zx c;injection this with e;lia
    refine⟨_,rfl,r0,rf0,c0,rfl,hG5,co0,by lia,by lia,_,rfl,_,_,rfl,rfl,_,rfl,?_⟩
    have eA:(if area c0<0 then-area c0 else area c0)=dO cs:=by rw[nar];rfl
    rw[eA];refine aU (fun c2=>af "wide" H6 ⟨au.refl _,fin _ (.inl ⟨⟨e11,Zx c2⟩,rfl⟩)⟩) (fun c2=>af d H6 ⟨au.refl _,fin _ (.inr ⟨fun z=>c2 (Zt z.2),rfl⟩)⟩)
   ·have n11:i≠11:=fun e=>by subst e;exact c (Zt rfl)
    exact fk (af d H6 ⟨au.refl _,fin _ (.inr ⟨fun z=>n11 z.1,rfl⟩)⟩)
  rintro d H6 ⟨s6,du1,du2,du3,du4⟩;refine⟨_,rfl,_,rfl,r,rf,cs,rfl,hP5.mono s6,fun h1 H7 s7 k1=>⟨_,rfl,r0,rf0,c0,rfl,(hG5.mono s6).mono s7,fun h2 H8 s8 k2=>?_⟩⟩;have s68:=s6.trans (s7.trans s8);refine⟨_,rfl,i,h1,rf,cs,h2,rf0,c0,tu,T,ts,rfl,hi12,k1.mono s8,co3,n4,k2,co0,fe,s68 _ _ hT5,bT,(fun f=>?_),(fun nf H9 s9=>?_),(fun f z1 z2 H9 s9=>?_),(fun f z1 z2 H9 s9=>?_),fun ok H9 s9=>?_⟩
  ·have hw:way=0\/way=7:=by
    apply Z9;intro z;exact nw (by lia) f
   rw[ew hw];exact⟨Gd.ar,hc,di⟩
  ·have e:=du1 nf;subst e;exact⟨_,rfl,rfl,_,rfl,fk ⟨_,_,rfl,s5.trans (s68.trans s9)⟩⟩
  ·have e:=du2 f z1 z2;subst e;exact⟨_,rfl,rfl,_,rfl,fk ⟨_,_,rfl,s5.trans (s68.trans s9)⟩⟩
  ·have e:=du3 f z1 z2;subst e;exact⟨_,rfl,rfl,_,rfl,fk ⟨_,_,rfl,s5.trans (s68.trans s9)⟩⟩
  ·have e:=du4 ok;subst e;exact⟨_,rfl,rfl,_,rfl,fk ⟨_,_,rfl,s5.trans (s68.trans s9)⟩⟩
end
end FD
end
section
namespace FD
open PySem L2 FF
theorem ln1{α:Type}{l:List α}(h:l.length=1):∃a,l=[a]:=List.length_eq_one_iff.mp h
theorem lnS{α:Type}{n:Nat}{l:List α}(h:l.length=n+1):∃a r,l=a::r/\r.length=n:=by
 cases l with
 |nil=>cases h
 |cons a r=>exact⟨a,r,rfl,Nat.succ.inj h⟩
theorem ln2{α:Type}{l:List α}(h:l.length=2):∃a b,l=[a,b]:=by
 obtain⟨a,r,rfl,h2⟩:=lnS h;obtain⟨b,rfl⟩:=ln1 h2;exact⟨a,b,rfl⟩
theorem ln3{α:Type}{l:List α}(h:l.length=3):∃a b c,l=[a,b,c]:=by
 obtain⟨a,r,rfl,h2⟩:=lnS h;obtain⟨b,c,rfl⟩:=ln2 h2;exact⟨a,b,c,rfl⟩
theorem ln4{α:Type}{l:List α}(h:l.length=4):∃a b c d,l=[a,b,c,d]:=by
 obtain⟨a,r,rfl,h2⟩:=lnS h;obtain⟨b,c,d,rfl⟩:=ln3 h2;exact⟨a,b,c,d,rfl⟩
noncomputable def fo(n:Str)(st:Stmt)(md:Value)(cd:Addr):Obj:={cls:=.type "function",data:=.func (YO n n (gv st) (ez st) (aq st) .none .none .none md none (.ref cd) .none)}
noncomputable def Df(K:Z3)(x:Str)(st:Stmt):Prop:=∃(f cd:Addr) (md:Value),(Xw K ZZ x,K.lookup f,Wq K (.ref cd) x,Yl K (.ref f))=(some (some (.ref f)),some (fo x st md cd),true,true)
theorem Df.out{K:Z3}{x:Str}{st:Stmt}(d:Df K x st):∃f fd,Fun K x x st f fd/\Xw K ZZ x=some (some (.ref f))/\Yl K (.ref f)=true/\∃cd md,fd=YO x x (gv st) (ez st) (aq st) .none .none .none md none (.ref cd) .none:=by
 obtain⟨f,cd,md,e⟩:=d;injection e with a e
 injection e with l e
 injection e with c k
 exact⟨f,_,C6 (st:=st) l c k,a,k,cd,md,rfl⟩
noncomputable def rR(x:Str)(st:Stmt)(ps:List Str):Prop:=∀(kV doc pm:Value) (an:Option Addr) (E3 ct:Value) (us:List Value),us.length=ps.length->bindArgs (YO x x (gv st) (ez st) (aq st) .none kV doc pm an E3 ct) ⟨us,[]⟩=pure (ps.zip us)
section
variable{P:Zv}{w:Zl}{K:Z3}{h base:ZF}{mg:Str->Option Value}{x:Str}{st:Stmt}{n:Nat}{ps:List Str}{sp:Sp}
theorem Df.cal(X:K.In h)(G:h.Ns ZZ mg)(d:Df K x st)(ok:∀f fd,Fun K x x st f fd->aI P w K mg base CX0 n f fd ps sp)(hb:rR x st ps:=by (intro _ _ _ _ _ _ us hl;first| (obtain⟨_,rfl⟩:=ln1 hl;rfl)| (obtain⟨_,_,rfl⟩:=ln2 hl;rfl)| (obtain⟨_,_,_,rfl⟩:=ln3 hl;rfl)| (obtain⟨_,_,_,_,rfl⟩:=ln4 hl;rfl))):Cal P w K mg base n x ps sp:=by
 obtain⟨f,fd,F,a,k,_⟩:=d.out;exact Cal.of (ok _ _ F) (F.binds hb) k (YN X G a)
theorem Df.calX(X:K.In h)(G:h.Ns ZZ mg)(d:Df K x st)(ok:∀f fd,Fun K x x st f fd->aI P w K mg base (CX1 P w base) n f fd ps sp)(hb:rR x st ps:=by (intro _ _ _ _ _ _ us hl;first| (obtain⟨_,rfl⟩:=ln1 hl;rfl)| (obtain⟨_,_,rfl⟩:=ln2 hl;rfl)| (obtain⟨_,_,_,rfl⟩:=ln3 hl;rfl)| (obtain⟨_,_,_,_,rfl⟩:=ln4 hl;rfl))):cq P w K mg base n x ps sp:=by
 obtain⟨f,fd,F,a,k,_⟩:=d.out;exact cq.of (ok _ _ F) (F.binds hb) k (YN X G a)
theorem Df.calM(X:K.In h)(G:h.Ns ZZ mg)(d:Df K x st)(ok:∀f fd,Fun K x x st f fd->fX P w K mg base CX0 n f fd ps sp)(hb:rR x st ps:=by (intro _ _ _ _ _ _ us hl;first| (obtain⟨_,rfl⟩:=ln1 hl;rfl)| (obtain⟨_,_,rfl⟩:=ln2 hl;rfl)| (obtain⟨_,_,_,rfl⟩:=ln3 hl;rfl)| (obtain⟨_,_,_,_,rfl⟩:=ln4 hl;rfl))):n_ P w K mg base n x ps sp:=by
 obtain⟨f,fd,F,a,k,_⟩:=d.out;exact n_.of (ok _ _ F) (F.binds hb) k (YN X G a)
end
theorem DA{l:VB}{w:Zl}{K:Z3}{h:ZF}{mg:Str->Option Value}{fa:Addr}(X:K.In h)(G:h.Ns ZZ mg)(hfa:mg "law" = some (.ref fa))
  (d1:Df K "turn" vn)(d2:Df K "between" mj)(d3:Df K "lies_on" vT)(d4:Df K "parts" sY)(d5:Df K "sides_meet" vX)(d6:Df K "goes_back" vY)(d7:Df K "sides_of" qK)(d8:Df K "some_side_goes_back" kH)(d9:Df K "some_sides_meet" kD)(d10:Df K "is_fence" rD)(Gz:Df K "refuse_no_fence" la)(d12:Df K "signed_double_area" lv)(Gq:Df K "double_area" qA)(GA:Df K "goes_left" qk)(d15:Df K "meets_rightward" sMR)(d16:Df K "place_of" iz)(GB:Df K "where" mK)(d18:Df K "whole_points" sWP)(GC:Df K "rim" rJ)(GD:Df K "inside" lp)(d21:Df K "row_stop" mH)(d22:Df K "whole_between" g6)(d23:Df K "row_stops" gS)(GE:Df K "row_counts" gz)(GG:Df K "greater" iC)(GH:Df K "greater_counts" sGC)(d27:Df K "rotations" ig)(d28:Df K "bent_first" qx)(d29:Df K "coefficients" vx)(d30:Df K "turning_between" sTB)(d31:Df K "is_turning" zH)(d32:Df K "led_point" sg)(d33:Df K "led" qq)(GI:Df K "alike" kX)(d35:Df K "turned" jQ)(d36:Df K "doubled_area" vh)(d37:Df K "holds" mQ)(d38:Df K "is_loose" kd)(d39:Df K "loose_triangle" jB)(d40:Df K "corner_triangles" nN)(d41:Df K "step_into" qZ)(d42:Df K "point_within" lQ)(d43:Df K "split_at" jE)(d44:Df K "least_triangles" mO)(d45:Df K "_law_cell_at" vv)(d46:Df K "_law_draw" vG)(d47:Df K "_law_rows_by" wC)(d48:Df K "_law_joined" oi)(d49:Df K "_law_spiral" oz)(d50:Df K "_law_flat" qu)(d51:Df K "_law_fence_by" jW)(d52:Df K "_law_sum" vw)(d53:Df K "_law_called" n6)(d54:Df K "_law_word_of" oG)(d55:Df K "_law_tried" re)(d56:Df K "_law_spoilt" jp)(d57:Df K "law" zn)
  (zs:(["min","max","list","zip","range","len","enumerate","set","sum","abs","reversed","isinstance","int","bool","tuple","ValueError","any","all","sorted"]:List Str).map (Xw K ZZ)=WV 19 (some none))
  {tk1:Tok}(y1:Xw K ZZ "FEWEST_CORNERS" = some (some (.int 3 tk1)))
  {tk2:Tok}(y2:Xw K ZZ "MOST_CORNERS" = some (some (.int 12 tk2)))
  {tk3:Tok}(y3:Xw K ZZ "WIDEST" = some (some (.int 60 tk3)))
  (eE:Xw K ZZ "FenceError" = some (some (.ref 24)))
  (eF:Xw K ZZ "NoFence" = some (some (.ref 37)))
  (eT:Xw K ZZ "NoTurning" = some (some (.ref 49)))
  (eW:Xw K ZZ "TooWide" = some (some (.ref 61)))
  (Gr:kS K 24=true)
  (xoF:rp K 37 (.ref 24::iJ) "ValueError.__new__" = true)
  (xqF:kS K 37=true)
  (xzF:rj K 37=true)
  (xxF:XX K (.ref 37) (.ref 24)=some true)
  (yF1:Y7 K (.ref 37) (.ref 37)=some true)
  (yF2:Y7 K (.ref 37) (.ref 49)=some false)
  (yF3:Y7 K (.ref 37) (.ref 61)=some false)
  (yF4:Y7 K (.ref 37) (.type "ValueError")=some true)
  (xoT:rp K 49 (.ref 24::iJ) "ValueError.__new__" = true)
  (xqT:kS K 49=true)
  (xzT:rj K 49=true)
  (xxT:XX K (.ref 49) (.ref 24)=some true)
  (yT1:Y7 K (.ref 49) (.ref 37)=some false)
  (yT2:Y7 K (.ref 49) (.ref 49)=some true)
  (yT3:Y7 K (.ref 49) (.ref 61)=some false)
  (yT4:Y7 K (.ref 49) (.type "ValueError")=some true)
  (xoW:rp K 61 (.ref 24::iJ) "ValueError.__new__" = true)
  (xqW:kS K 61=true)
  (xzW:rj K 61=true)
  (xxW:XX K (.ref 61) (.ref 24)=some true)
  (yW1:Y7 K (.ref 61) (.ref 37)=some false)
  (yW2:Y7 K (.ref 61) (.ref 49)=some false)
  (yW3:Y7 K (.ref 61) (.ref 61)=some true)
  (yW4:Y7 K (.ref 61) (.type "ValueError")=some true)
  : ∃fd:Zf,(∀(s:Shared) (v:Value),U7 s fd ⟨[v],[]⟩ [("script",v)])/\∀base:ZF,K.In base->base.Ns ZZ mg->aI l.prog w K mg base CX0 11 fa fd ["script"] (qo K):=by
 obtain⟨f,fd,F,a,k,cd,md,efd⟩:=d57.out;have e:=hfa.symm.trans (YN X G a);cases e;simp only[Y5,Wn,WV,WJ,and_true]at zs;obtain⟨z1,z2,z3,z4,z5,z6,z7,z8,z9,z10,z11,z12,z13,z14,z15,z16,z17,z18,z19⟩:=zs;have m_min:=ZD X G z1;have m_max:=ZD X G z2;have E9:=ZD X G z3;have F5:=ZD X G z4;have E4:=ZD X G z5;have E5:=ZD X G z6;have m_enumerate:=ZD X G z7;have Fg:=ZD X G z8;have F4:=ZD X G z9;have Ew:=ZD X G z10;have E8:=ZD X G z11;have E6:=ZD X G z12;have m_int:=ZD X G z13;have m_bool:=ZD X G z14;have m_tuple:=ZD X G z15;have m_ValueError:=ZD X G z16;have Fh:=ZD X G z17;have Fu:=ZD X G z18;have EO:=ZD X G z19;have m_FEWEST_CORNERS:=YN X G y1;have m_MOST_CORNERS:=YN X G y2;have ER:=YN X G y3;refine⟨fd,fun s v=>by subst efd;exact .of_eq rfl,fun base KB _=>?_⟩
 have e_E:=YN X G eE;have e_F:=YN X G eF;have e_T:=YN X G eT;have e_W:=YN X G eW;have EF:lV K mg 24 37 49 61:=⟨e_E,e_F,e_T,e_W⟩;have O_F:=oo KB xoF xqF Gr;have Z_F:=kP xzF;have O_T:=oo KB xoT xqT Gr;have Z_T:=kP xzT;have O_W:=oo KB xoW xqW Gr;have Z_W:=kP xzW;have dc:=fun {x:Str} {st:Stmt} {n:Nat} {ps:List Str} {sp:Sp}=>@Df.cal l.prog w K h base mg x st n ps sp X G;have dx:=fun {x:Str} {st:Stmt} {n:Nat} {ps:List Str} {sp:Sp}=>@Df.calX l.prog w K h base mg x st n ps sp X G;have dm:=fun {x:Str} {st:Stmt} {n:Nat} {ps:List Str} {sp:Sp}=>@Df.calM l.prog w K h base mg x st n ps sp X G;have c_turn:=dc d1 fun _ _ F=>Ch (n:=0) F;have c_between:=dc d2 fun _ _ F=>v6 (n:=0) F m_min m_max;have c_lies_on:=dc d3 fun _ _ F=>Bb F c_between c_turn;have c_parts:=dc d4 fun _ _ F=>Ah F c_turn;have c_sides_meet:=dc d5 fun _ _ F=>B3 F c_lies_on c_parts;have c_goes_back:=dc d6 fun _ _ F=>BN F c_turn;have E7:=dc d7 fun _ _ F=>zU (n:=0) F E9 F5;have c_some_side_goes_back:=dc d8 fun _ _ F=>tR F c_goes_back E4 E5;have c_some_sides_meet:=dc d9 fun _ _ F=>tO F E7 c_sides_meet m_enumerate;have c_is_fence:=dc d10 fun _ _ F=>zN F c_some_side_goes_back c_some_sides_meet E5 Fg m_FEWEST_CORNERS m_MOST_CORNERS;have B':=dc Gz fun _ _ F=>xu F c_is_fence;have x_refuse:=dx Gz fun _ _ F=>wB F c_is_fence e_F O_F;have c_signed_double_area:=dc d12 fun _ _ F=>xM F E7 F4;have E1:=dc Gq fun _ _ F=>uj F B' c_signed_double_area Ew;have x_double_area:=dx Gq fun _ _ F=>(uj F B' c_signed_double_area Ew).toX.or (uS F x_refuse);have n_double_area:=dx Gq fun _ _ F=>uS F x_refuse;have Ez:=dc GA fun _ _ F=>uh F B' c_signed_double_area;have x_goes_left:=dx GA fun _ _ F=>(uh F B' c_signed_double_area).toX.or (Ce F x_refuse);have c_meets_rightward:=dc d15 fun _ _ F=>D0 F c_turn;have c_place_of:=dc d16 fun _ _ F=>vt F E7 c_lies_on c_meets_rightward Fh E5;have Fi:=dc GB fun _ _ F=>rn F B' c_place_of;have x_where:=dx GB fun _ _ F=>(rn F B' c_place_of).toX.or (zu F x_refuse);have E_:=dc d18 fun _ _ F=>D8 (n:=0) F Ew;have ED:=dc GC fun _ _ F=>xH F B' E7 E_ F4;have x_rim:=dx GC fun _ _ F=>(xH F B' E7 E_ F4).toX.or (Cs F x_refuse);have F6:=dc GD fun _ _ F=>pX F E1 ED;have x_inside:=dx GD fun _ _ F=>(pX F E1 ED).toX.or (yt F n_double_area);have c_row_stop:=dc d21 fun _ _ F=>vZ (n:=0) F;have c_whole_between:=dc d22 fun _ _ F=>nv (n:=0) F;have c_row_stops:=dc d23 fun _ _ F=>tN F c_between c_row_stop E7 Fg EO;have EH:=dc GE fun _ _ F=>kU F B' c_row_stops c_place_of c_whole_between F5 E5;have x_row_counts:=dx GE fun _ _ F=>(kU F B' c_row_stops c_place_of c_whole_between F5 E5).toX.or (A4 F x_refuse);have ET:=dc GG fun _ _ F=>mP F B';have x_greater:=dx GG fun _ _ F=>(mP F B').toX.or (Cz F x_refuse);have Ey:=dc GH fun _ _ F=>AU F E1 ED;have x_greater_counts:=dx GH fun _ _ F=>(AU F E1 ED).toX.or (Ej F n_double_area);have c_rotations:=dc d27 fun _ _ F=>sE (n:=0) F E5 E4;have c_bent_first:=dc d28 fun _ _ F=>By F c_rotations c_turn;have c_coefficients:=dc d29 fun _ _ F=>BT F c_turn;have c_turning_between:=dc d30 fun _ _ F=>Ec F c_coefficients;have c_is_turning:=dc d31 fun _ _ F=>C5 (n:=0) F Ew;have c_led_point:=dc d32 fun _ _ F=>yV (n:=0) F;have c_led:=dc d33 fun _ _ F=>Cc F c_led_point;have EY:=dc GI fun _ _ F=>qM F c_bent_first c_is_turning c_led B' c_rotations c_turning_between E5 E9 E8;have x_alike:=dx GI fun _ _ F=>(qM F c_bent_first c_is_turning c_led B' c_rotations c_turning_between E5 E9 E8).toX.or ((wN F x_refuse).or (w5 F x_refuse));have x_turned:=dx d35 fun _ _ F=>(vy F B' c_is_turning c_led e_T O_T).or (DL F x_refuse);have c_doubled_area:=dc d36 fun _ _ F=>BU F c_turn;have c_holds:=dc d37 fun _ _ F=>zZ F E7 c_turn Fu;have c_is_loose:=dc d38 fun _ _ F=>zw F c_doubled_area c_holds Fh;have c_loose_triangle:=dc d39 fun _ _ F=>wR F c_is_loose E5 E4;have c_corner_triangles:=dc d40 fun _ _ F=>zW F c_loose_triangle E5 E9;have c_step_into:=dc d41 fun _ _ F=>Aw (n:=0) F;have c_point_within:=dc d42 fun _ _ F=>C0 F c_doubled_area c_step_into E4;have c_split_at:=dc d43 fun _ _ F=>vQ F c_doubled_area;have x_least:=dx d44 fun _ _ F=>(zF F c_corner_triangles E1 c_doubled_area Ez c_point_within c_split_at E5 E9 E8 ER e_W O_W).or (Ab F n_double_area);have c__law_cell_at:=dc d45 fun _ _ F=>BG (n:=0) F E5;have c__law_draw:=dc d46 fun _ _ F=>Cj (n:=0) F;have c__law_rows_by:=dc d47 fun _ _ F=>BL F c__law_cell_at c__law_draw E4;have c__law_joined:=dc d48 fun _ _ F=>yB (n:=0) F E9 E8 E5;have c__law_spiral:=dc d49 fun _ _ F=>yl (n:=0) F;have c__law_flat:=dc d50 fun _ _ F=>Ba (n:=0) F E5 E4;have c__law_fence_by:=dc d51 fun _ _ F=>tK F c__law_cell_at c__law_rows_by c__law_joined c__law_spiral c__law_flat E5 E9 E8;have c__law_sum:=dc d52 fun _ _ F=>A0 (n:=0) F E5 E4;have x_called:=dx d53 fun _ _ F=>yw F x_double_area x_goes_left x_where x_rim x_inside x_row_counts x_greater x_greater_counts x_alike x_turned x_least;have x_word:=dm d54 fun _ _ F=>(n9 (C:=37) (j:=0) F EF m_ValueError E6 Z_F yF1 yF2 yF3 yF4 (by decide) (by decide) rfl (by decide)).or ((n9 (C:=49) (j:=1) F EF m_ValueError E6 Z_T yT1 yT2 yT3 yT4 (by decide) (by decide) rfl (by decide)).or (n9 (C:=61) (j:=2) F EF m_ValueError E6 Z_W yW1 yW2 yW3 yW4 (by decide) (by decide) rfl (by decide)))
 have c__law_tried:=dc d55 fun _ _ F=>yX F x_called x_word EF xxF xxT xxW;have c__law_spoilt:=dc d56 fun _ _ F=>yv (n:=0) F E4;exact Da F c__law_cell_at c__law_fence_by c__law_sum c__law_spoilt c__law_tried Ew E5 E9 E4
theorem walk{l:VB}{q:Zv}{loose:List Str}{XP:(Str->Option Value)->ZF->Prop}{YP:Zl->ZF->Prop}{d:DefRec}{K:UW->Z3}(hn:l.most=some 63)(FU:d.params.defaults=[])
  (hY:∀(w:Zl) (h:ZF),YP w h->(K w.params).In h)
  (F:∀(w:Zl) (mg:Str->Option Value) (fa:Addr) (h:ZF),(K w.params).In h->h.Ns ZZ mg->mg d.name=some (.ref fa)->
   ∃fd:Zf,(∀(s:Shared) (u:Value),U7 s fd ⟨[u],[]⟩ [("script",u)])/\∀base:ZF,(K w.params).In base->base.Ns ZZ mg->aI l.prog w (K w.params) mg base CX0 11 fa fd ["script"] (qo (K w.params))):
  TJ q loose XP YP l.row.toRowW d [] (fun f vs=>UX f vs):=
 L2.BQ (n:=63) (k:=11) (x := "script") (CX:=fun _=>CX0) (sp:=fun w=>qo (K w.params)) hn (by decide) FU ⟨rfl,by decide,by decide⟩ hY F (fun _ _ a ns hl _ hS=>⟨a,ns,rfl,hS,hl,fun _=>rfl⟩) fun _ _ _ _ _ z=>z
end FD
end
open PySem PySem.W PyProof.Rows
set_option maxRecDepth 100000 in
set_option maxHeartbeats 0 in
theorem PySem.Challenge.cw_fencefield_k16_what_is_refused_holds : PySem.Challenge.rw_fencefield_k16_what_is_refused.Holds := by
 refine PySem.W.holds_law (by kernel_rfl) fun said=>?_
 refine PySem.W.holds_open (q:=FD.VQ) (loose:=[]) (Xt:=fun s=>Ue FD.VQ [] s&&Uz (WD PySem.Challenge.rw_fencefield_k16_what_is_refused.row.toRowW) s) (XP:=PySem.W.XL FD.VQ []) (Yf:=Vt FD.HK) (Ya:=Vs FD.HK) (YP:=PySem.W.Hook.says FD.HK) (N:=5348) FD.left (PySem.W.Hook.of FD.HK) (PySem.W.Hook.keeps FD.HK) (fun s e=>PySem.W.xl_of s (U4.mp e).1) PySem.W.XL.keeps (by rfl) (by rfl) (by rfl) (fun s e=>PySem.W.recFacts_of (U4.mp e).2) (by rfl) said (by decide +kernel) ⟨rfl,rfl,rfl,rfl,rfl,by decide +kernel⟩ ?hw ?hc
 case hw=>w_witness2
 case hc=>
  refine FD.walk (l:=PySem.Challenge.rw_fencefield_k16_what_is_refused) rfl rfl (fun w h Y=>PySem.W.kIn_of Y) ?F
  case F=>
   intro w mg fa h KX G hmg;exact FD.DA KX G hmg ⟨70,69,FD.vS "fencefield.sides" 255,by kernel_rfl⟩ ⟨77,76,FD.vS "fencefield.sides" 255,by kernel_rfl⟩ ⟨84,83,FD.vS "fencefield.sides" 255,by kernel_rfl⟩ ⟨91,90,FD.vS "fencefield.sides" 255,by kernel_rfl⟩ ⟨98,97,FD.vS "fencefield.sides" 255,by kernel_rfl⟩ ⟨105,104,FD.vS "fencefield.sides" 255,by kernel_rfl⟩ ⟨166,165,FD.vS "fencefield.fences" 337,by kernel_rfl⟩ ⟨173,172,FD.vS "fencefield.fences" 337,by kernel_rfl⟩ ⟨180,179,FD.vS "fencefield.fences" 337,by kernel_rfl⟩ ⟨126,125,FD.vS "fencefield.fences" 337,by kernel_rfl⟩ ⟨159,158,FD.vS "fencefield.fences" 337,by kernel_rfl⟩ ⟨185,184,FD.vS "fencefield.fences" 337,by kernel_rfl⟩ ⟨133,132,FD.vS "fencefield.fences" 337,by kernel_rfl⟩ ⟨140,139,FD.vS "fencefield.fences" 337,by kernel_rfl⟩ ⟨112,111,FD.vS "fencefield.sides" 255,by kernel_rfl⟩ ⟨152,151,FD.vS "fencefield.fences" 337,by kernel_rfl⟩ ⟨147,146,FD.vS "fencefield.fences" 337,by kernel_rfl⟩ ⟨119,118,FD.vS "fencefield.sides" 255,by kernel_rfl⟩ ⟨190,189,FD.vS "fencefield.counts" 418,by kernel_rfl⟩ ⟨197,196,FD.vS "fencefield.counts" 418,by kernel_rfl⟩ ⟨214,213,FD.vS "fencefield.counts" 418,by kernel_rfl⟩ ⟨221,220,FD.vS "fencefield.counts" 418,by kernel_rfl⟩ ⟨207,206,FD.vS "fencefield.counts" 418,by kernel_rfl⟩ ⟨202,201,FD.vS "fencefield.counts" 418,by kernel_rfl⟩ ⟨226,225,FD.vS "fencefield.turning" 464,by kernel_rfl⟩ ⟨233,232,FD.vS "fencefield.turning" 464,by kernel_rfl⟩ ⟨271,270,FD.vS "fencefield.turning" 464,by kernel_rfl⟩ ⟨276,275,FD.vS "fencefield.turning" 464,by kernel_rfl⟩ ⟨288,287,FD.vS "fencefield.turning" 464,by kernel_rfl⟩ ⟨281,280,FD.vS "fencefield.turning" 464,by kernel_rfl⟩ ⟨254,253,FD.vS "fencefield.turning" 464,by kernel_rfl⟩ ⟨266,265,FD.vS "fencefield.turning" 464,by kernel_rfl⟩ ⟨259,258,FD.vS "fencefield.turning" 464,by kernel_rfl⟩ ⟨247,246,FD.vS "fencefield.turning" 464,by kernel_rfl⟩ ⟨240,239,FD.vS "fencefield.turning" 464,by kernel_rfl⟩ ⟨302,301,FD.vS "fencefield.cutting" 556,by kernel_rfl⟩ ⟨322,321,FD.vS "fencefield.cutting" 556,by kernel_rfl⟩ ⟨317,316,FD.vS "fencefield.cutting" 556,by kernel_rfl⟩ ⟨312,311,FD.vS "fencefield.cutting" 556,by kernel_rfl⟩ ⟨307,306,FD.vS "fencefield.cutting" 556,by kernel_rfl⟩ ⟨334,333,FD.vS "fencefield.cutting" 556,by kernel_rfl⟩ ⟨327,326,FD.vS "fencefield.cutting" 556,by kernel_rfl⟩ ⟨339,338,FD.vS "fencefield.cutting" 556,by kernel_rfl⟩ ⟨295,294,FD.vS "fencefield.cutting" 556,by kernel_rfl⟩ ⟨346,345,FD.vS "law_fencefield_k16_what_is_refused" 625,by kernel_rfl⟩ ⟨353,352,FD.vS "law_fencefield_k16_what_is_refused" 625,by kernel_rfl⟩ ⟨360,359,FD.vS "law_fencefield_k16_what_is_refused" 625,by kernel_rfl⟩ ⟨367,366,FD.vS "law_fencefield_k16_what_is_refused" 625,by kernel_rfl⟩ ⟨374,373,FD.vS "law_fencefield_k16_what_is_refused" 625,by kernel_rfl⟩ ⟨379,378,FD.vS "law_fencefield_k16_what_is_refused" 625,by kernel_rfl⟩ ⟨384,383,FD.vS "law_fencefield_k16_what_is_refused" 625,by kernel_rfl⟩ ⟨391,390,FD.vS "law_fencefield_k16_what_is_refused" 625,by kernel_rfl⟩ ⟨398,397,FD.vS "law_fencefield_k16_what_is_refused" 625,by kernel_rfl⟩ ⟨405,404,FD.vS "law_fencefield_k16_what_is_refused" 625,by kernel_rfl⟩ ⟨412,411,FD.vS "law_fencefield_k16_what_is_refused" 625,by kernel_rfl⟩ ⟨417,416,FD.vS "law_fencefield_k16_what_is_refused" 625,by kernel_rfl⟩ ⟨424,423,FD.vS "law_fencefield_k16_what_is_refused" 625,by kernel_rfl⟩ (by kernel_rfl) (tk1:=339) (by kernel_rfl) (tk2:=341) (by kernel_rfl) (tk3:=558) (by kernel_rfl) (by kernel_rfl) (by kernel_rfl) (by kernel_rfl) (by kernel_rfl) (by kernel_rfl) (by kernel_rfl) (by kernel_rfl) (by kernel_rfl) (by kernel_rfl) (by kernel_rfl) (by kernel_rfl) (by kernel_rfl) (by kernel_rfl) (by kernel_rfl) (by kernel_rfl) (by kernel_rfl) (by kernel_rfl) (by kernel_rfl) (by kernel_rfl) (by kernel_rfl) (by kernel_rfl) (by kernel_rfl) (by kernel_rfl) (by kernel_rfl) (by kernel_rfl) (by kernel_rfl) (by kernel_rfl) (by kernel_rfl) (by kernel_rfl)
