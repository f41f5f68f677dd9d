import PyProof.Rows.All
import Wide.All
import OpenK.AllK
import Wide.FinOn
import Lean
import PyProof.EqAt
import PyProof.EqKinds
import PyProof.TupleCall
import PySem.Challenge.RW_slanttiles_k32_who_reads_a_spot
open PySem renaming wpAny_bind->Aa,wpAny_pure->Af,wpAny_holding->By,codeAny_builtin->Ci,wpAny_truthy_bool->Ck,wpAny_mono->Cq,sizeLine_eq->Cr,wpAny_newObj_type->Cv,mem_of_lookup->Dd,wpAny_call_entry->Dg,plainId_quiet->Do,wpAny_setState_of->Dz,wpAny_forIn_list->Ef,boot_len->Ek,wpAny_seqItems->Ew,wpAny_specialOf->Ey,wpAny_typeNameOfWhole_keyiter->Fg,wpAny_isInstance->Fh,wpAny_passesOwn->Ft,wpAny_typeNameOf_keyiter->Gn,wpAny_tupleItemsOf->Gr,wpAny_Call_Name_kw->Gs,wpAny_pyIter_list->He,isSubtype_tuple_tuple->Hk,codeAny_mono->Hl,wpAny_askSetting->Hr,wpAny_updateSeq->Hz,wpAny_typeOf->Il,wpAny_setField->Io,wpAny_rule->Iy,wpAny_comprehension_free->Iz,wpAny_standAt->Jf,wpAny_callSpecial?_slot->Jg,wpAny_execs_nil->Jx,putSet_of->Jy,builtinLookup_eq_fast->Jz,wpAny_tryCatch->Kj,wpAny_newList->Lf,wpAny_storeSet_of->Lx,wpAny_pyIter_slot->Ly,wpAny_dictEntries->Lz,boot_len->Md,wpAny_eqBool_int->Mu,noFill_tuple_add->Mv,wpAny_richCompare_same_room->Nn,wpAny_of_eq->Np,wpAny_letGo->Nq,wpAny_dictEpoch->Nr,typeLookup_type->Nt,Within->Nx,wpAny_runValue->Oi,wpAny_fieldsOf->Oj,isSubtype_type->On,wpAny_load->Pc,wpAny_call->Pd,intKind_is->Pe,call_meets->Pf,wpAny_attempt->Pi,seq_tuple_add->Pl,nums_intItems->Pn,numAt_eq->Po,call->Pr,wpAny_Assign_Subscript->Qa,codeAny_compStart_list->Qc,wpAny_notOrdered_dict->Qj,wpAny_isTrue_Compare1->Qk,wpAny_isOneOf_keyiter->Ql,seqIndex_neg->Qm,concat_meets->Qp,wpAny_newFunctionEnv->Qz,codeAny_call_builtin->Ra,wpAny_setEntries_of->Rf,seqIndex_of->Rg,intItems_at->Rj,wpAny_setItem_heap->Ry,wpAny_getItem_heap->Rz,tupleKind_room_in1->Sa,wpAny_pyIter_enum->Sq,wpAny_assign_Name->Sr,wpAny_Name->Ss,typeIs_str->Su,eqIsQuiet_byValue->Sv,wpAny_execs_cons->Uc,entryFor_of_tree->Ud,codeAny_of_tree->Vr
open List renaming length_map->Ab,mem_cons_of_mem->Ad,mem_cons_self->Ae,length_append->Ag,length_cons->Ah,getElem?_eq_getElem->Ak,size_toArray->Al,map_cons->Aw,map_append->Ay,getElem?_map->Az,mem_append_right->Ba,length_nil->Be,append_nil->Bg,drop_eq_getElem_cons->Bh,append_assoc->Bi,map_map->Bk,not_mem_nil->Bm,mem_of_getElem? ->Bn,lookup_cons->Bo,range->Bq,mem_cons->Ca,length_take->Cd,length->Cg,length_set->Cm,getElem?_eq_none->Co,getElem?_append_right->Cu,find?_cons->Dc,length_singleton->De,length_range->Df,map_nil->Dn,pairwise_map->Dt,getElem?_append_left->Dv,any_cons->Dw,nil_append->Dy,getElem_mem->Eb,getElem?_replicate->Ee,length_replicate->Ep,mem_append_left->Es,take_of_length_le->Fb,mem_singleton->Fc,lookup->Fl,foldl_cons->Fm,sum_cons->Fq,nodup_range->Fy,filterMap_cons->Gc,zip_cons_cons->Gh,mem_append->Gi,eraseIdx_cons_succ->Gj,drop_of_length_le->Gp,drop_zero->Gv,take_append_drop->Gz,length_drop->Hc,drop_append_of_le_length->Hd,range_eq_range'->Hg,getElem?_append->Hh,dropLast_concat_getLast->Hi,sum_append->Hn,of_mem_zip->Ho,getElem_of_mem->Hq,take_succ->Hw,nodup_nil->Hx,nodup_append->Ig,getElem?_cons_succ->Im,take_length->Ip,range'_succ->Iq,drop_length->Ir,getElem?_toArray->Jd,mem_of_mem_take->Jn,mem_of_mem_drop->Jo,replicate->Jr,drop_drop->Js,map_congr_left->Ju,getElem?_range->Jv,all_cons->Kf,getElem?_set->Kk,flatMap_cons->Kl,ext_getElem? ->Km,Nodup->Kn,getElem_inj->Lb,any_eq_true->Lc,zip_append->Lm,range'->Lo,nodup_cons->Lq,length_zip->Lr,getD->Ls,forIn_cons->Lu,pairwise_iff_getElem->Mp,mem_of_find?_eq_some->Mq,getElem?_take_of_lt->Nb,filterMap_cons_some->Nd,pairwise_singleton->Nh,filter_cons_of_pos->Ni,filter_cons_of_neg->Nj,range_succ_eq_map->Ob,getElem?_set_self->Oc,pairwise_flatMap->Of,length_filter_le->Og,getElem?_set_ne->Pa,map_filterMap->Pw,getElem?_drop->Px,take_sublist->Qh,perm_middle->Qs,flatMap_nil->Qt,take_left->Rq,forIn_nil->Rr,elem_cons->Rt,drop_left->Ru,take_nil->Sh,toArray->Tp,sum_nil->Tq,mem_map->Ts,any_map->Tt,map_id->Ve
open PySem.W renaming Frag->Ac,findIn->Di,kia_one->Dj,emptyDict->Dp,nsIn->Du,fnOf->Em,instObj->Er,mg_of->Fj,keepIn->Fs,plainGet->Ie,lookIn->Jc,plainGet_of->Jh,callWith_K->Jq,methodObj->Kb,hasDictIn->Kc,takerIn->Kq,makesIn->Kr,kitOne->Lg,codeIn->Lh,cellsFrom_some->Mm,methodCall_KW->Mz,isFn->Na,plainOver->Ou,kitx_list->Ov,kitx_dict->Ow,handedIn->Ph,KdlSrc->Qf
open PySem.Heap renaming get?_push_of_some->Ai,lt_size->Ap,get?_push_size->Ar,get?_update_self->Cc,SameBut->Cw,get?_update_other->Da,size_push->Dk,get?_none_of_le->Jp,ExtBut->Vh
open Bool renaming false_ne_true->Aj,false_eq_true->Ao,not_true->Br,eq_iff_iff->Ej,and_eq_true->Fz,not_false->Gw,and_false->Gx,false_and->Hy,true_and->Nk,and_true->Sm,and_self->Sn
open Nat renaming le_refl->Am,ne_of_lt->Ax,zero_le->Bb,lt_of_lt_of_le->Bf,le_trans->Cp,not_lt_zero->Dl,lt_succ_self->Ed,lt_irrefl->Eg,le_of_lt->Eh,lt_succ_of_lt->Ei,eq_zero_or_pos->Fe,le_add_right->Gb,le_succ->Gd,lt_or_ge->Ge,ne_of_gt->Ha,lt_trans->Hv,lt_trichotomy->Ij,le_max_right->Iw,zero_add->Jj,succ_pos->Jk,le_max_left->Jl,lt_of_le_of_lt->Kh,succ_le_of_lt->Kt,mod_lt->Ku,toDigits->Kz,sub_zero->La,succ_le_succ->Li,strongRecOn->Mf,toDigits_of_lt_base->Nz,digitChar->Oa,lt_of_succ_lt_succ->Od,le_of_succ_le_succ->Oe,sub_self->Oy,le_of_eq->Oz,one_pos->Pu,min_eq_right->Rc,min_eq_left->Rp,succ_mul->Va,succ_add->Vb,pow_succ->Vc,min_self->Vd,log2_lt->Vu
open PySem.Value renaming ref->An,none->Ce,int->Cz,isInt_shape->Ds,bool->Ga,type->Ia,isInt->Ih,str->Ka,float->Oq,isStrOf->Rm,builtin->Rn,bytes->Sx
open Array renaming length_toList->As,getElem?_eq_getElem->Bc,getElem?_toList->Bj,forIn_toList->Eo,getD->Eu,getElem?_eq_none->Nl,replicate->Qy,size_map->Re,toList->So
open PySem.Str renaming ofString->Au
open PySem.PassesOwn renaming never->Bd
open Option.some renaming inj->Bl
open List.cons renaming inj->Bp
open PyProof.Rows.F renaming plain_set_update_loop->Bs,entry_set_update_loop->Dx
open PySem.Around renaming under_plainId->Bt,under->Nm
open Or renaming inl->Bu,inr->Bz
open PySem.Heap.SameBut renaming update->Bw,trans->Mi,refl->Vg
open PySem.SetTable renaming below->Cb,sizeAbove->Dh,insertAt->Gg,turns->Jb,tooFull->Os,fits->Qd,fill->Qe
open PySem.Builtin.Str renaming strSliceIndices->Cj,occurrences->Kx,tooLong->Ml,glued->Vz
open Sum renaming inr->Ct,inl->Mc
open Ne renaming symm->Cy
open PySem.Builtin.Tuple renaming tupleHashOf->Dm,tupleItemsOf->Ua
open PySem.NameKind renaming free->Dq,cell->Gy
open PySem.Obj renaming mapSeq->Ea,data_mapFields->Fd,putSet->Gu,isFreed_of_fields->Ji,cls_mapFields->Ks,mapFields->Ny
open PySem.F renaming plainAttrs_list->Ec,slot_dict_keyiterator_next->Fp,type_list_append->Fu,slot_list_append->Fx,plain_max_loop->Gf,args_tuple_add_2->Ht,entry_tuple_add->Ic,slot_tuple_add->Ii,args_dict_keyiterator_next_1->Lv,plain_list_iadd->Me,entry_dict_keyiterator_next->Mj,plainAttrs_str->Mn,slot_tuple_hash->Rw,plain_list_iadd->Rx,slot_dict_iter->Sj,entry_max_loop->Sk,slot_tuple_eq->Tv,slot_set_iter->Tw,plain_set_new->Tx
open PySem.SetTable.layClean renaming free->El
open True renaming intro->En
open False renaming elim->Et
open PyProof.Rows renaming callWith_type1->Ex,boot_list->Ja,lt_int->Ll,boot_tuple->Mb,boot_str->Nf,sortedHeap_old->Ol,signs_ofString->Om,args_list_sort->Oo,sortedHeap_at->Pk,listUpdate_at->Pp,Constant_none->Pz,subscriptTail_builtinR->Qb,plain_sorted->Qn,entry_sorted->Qo,args_sorted1->Qq,seqEpoch_at->Rh,kind_sorted->Ri,boot_sorted->Rk,boot_int->Sb,Subscript_->Sy,callWith_kw->Uy,callWith_builtin1->Uz,boot_isinstance->Vs
open Nat.succ renaming inj->Ez
open Int renaming emod_lt_of_pos->Ff,emod_nonneg->Gm,le_trans->Hb,toNat_natCast->Ik,eq_ofNat_of_zero_le->Iu,natCast_add->Jm,mul_nonneg->Jw,emod_eq_of_lt->Kw,mul_le_mul_of_nonneg_right->Ld,mul_le_mul_of_nonneg_left->Lk,le_refl->Mg,fdiv_eq_ediv_of_nonneg->Mr,add_mul_emod_self_left->Ms,add_mul->Py,ofNat->Rv,zero_add->Vf,negSucc->Vw,mul_one->Vx
open List.Perm renaming refl->Gk,swap->Kv
open PySem.Builtin.List renaming listExtendWith->Gq,listTooLong->Hj,listSameRef->Ki,listTouch->Vl,listLengthHint->Vm
open Classical renaming byContradiction->Hm
open PySem.SetTable.probe renaming go->Hs
open PySem.Calls renaming call_function_entry->Hu,Name_function_global->Lw
open PySem.SeqAt renaming EqAt->Ib,notIn_tupleAt->Ot,notIn_listAt->Pg,RcNeAt->Sf,RcAt->Uh
open PySem.Builtin.Dict_items renaming ownsTuple->Iv
open PySem.Builtin.Builtins renaming bindParams->Je
open PySem.Shared renaming TypeIs->Jt
open PySem.NumText renaming digitsVal->Kd,AllDigits->Ox
open PySem.SeqAt.EqAt renaming same->Ke,str_int->Mw,of_refs->Mx,int_str->My
open PySem.Walks renaming list->Kg
open PySem.Builtin.Dict renaming updateFrom->Ko,showsAll->Le,selfAndRest->Vn,pairItems->Vo,dictSlotNone->Vp,addKeywords->Vq
open PySem.SetTable.below renaming go->Ky
open PySem.Moved renaming trans->Lj
open PySem.pickOrder renaming go->Ma
open Iff renaming rfl->Mh
open PySem.Paired renaming length->Mo,snoc->Sg
open PySem.SeqAt.RcAt renaming tuples->Ng,lists->Nv
open Sum.inr renaming inj->Nu
open PySem.Code renaming isFrame->Oh,frames->Vk
open ForInStep renaming yield->Pb
open PySem.Value.ref renaming inj->Pq
open Prod renaming ext->Pt
open Option renaming map_some->Qg
open Except renaming ok->Qi
open PySem.W.KIN renaming signs_num->Qr
open PySem.Builtin.Frozenset renaming updateFrom->Qu,slot0->Qv,sizeOf->Qw,newClass->Qx
open Prod.mk renaming inj->Ro
open PySem.Txt renaming startswith->Se
open PySem.Heap.IsSliceOf renaming new->Si
open PySem.W.WShape renaming has->Sw
open PySem.W.Looks renaming here->Sz
open PySem.StrLaws renaming seqIndex_nonneg->Tc
open PySem.EqMixed renaming ne_str_int->Td,ne_str_bool->Te,ne_int_str->Tf,ne_bool_str->Th,eq_str_int->Ti,eq_str_bool->Tj,eq_int_str->Tn,eq_bool_str->To
open List.Pairwise renaming nil->Tu
open PySem.CmpOp renaming NotIn->Tz
open PySem.Builtin.Range renaming rangeSize->Ub
open PySem.SeqAt.RcNeAt renaming tuples->Ue,lists->Ug
open PySem.Within renaming cons->Ui
open PySem.EqNone renaming ne_str_none->Uj,ne_none_str->Uk,ne_none_none->Ul,ne_none_int->Um,ne_none_bool->Uo,ne_int_none->Up,ne_bool_none->Uq,eq_str_none->Ur,eq_none_str->Us,eq_none_none->Ut,eq_none_int->Uu,eq_none_bool->Uv,eq_int_none->Uw,eq_bool_none->Ux
open PySem.Heap.DictOfH renaming new->Vi
open PySem.Data renaming fields->Vj
open PySem.W.WData renaming int->Vt
open PyProof.Rows.IsTup renaming new->Vv
open PySem.Heap.DictOf renaming new->Vy
set_option compiler.extract_closed false
set_option bootstrap.genMatcherCode false
set_option Elab.async false
set_option linter.all false
set_option maxRecDepth 100000
namespace L2
variable {E:Value->Shared->Prop} {Q:Value->Shared->Prop} {u:Value} {us:List Value} {mg:Str->Option Value} {kw:List (Str×Value)} {t':Nat} {base:Heap} {k:Nat} {b:Addr} {pos:Pos} {body:List Stmt} {mA:Str->Option Value} {ch:List Addr} {A:Around} {fp:List Addr} {i:Nat} {fd:FuncData} {ps:List Str} {tg:Expr} {g':Array GenState} {g:Int->Int->Int} {es:List Expr}
open PySem PySem.Spec PyProof.Rows
abbrev Key:=Sum Int Str
def aCt:Key->Value->Bool
 | .inl k,v=>Ih k v
 | .inr x,v=>Rm x v
def aZi (w:World):Key->Int
 | .inl k=>hashInt k
 | .inr x=>hashStr w x
def dN:∀{k:Key} {v:Value},aCt k v=true->(∃i t,k=Mc i/\v=Cz i t)∨(∃x t,k=Ct x/\v=Ka x t)
 | .inl i,v,h=>by
  obtain⟨t,e⟩:=Ds (k:=i) (v:=v) h;exact .inl ⟨i,t,rfl,e⟩
 | .inr x,v,h=>by
  obtain⟨t,e⟩:=Value.isStrOf_shape (x:=x) (v:=v) h;exact .inr ⟨x,t,rfl,e⟩
def aLx (i:Int) (t:Tok):aCt (.inl i) (.int i t)=true:=by simp [aCt,Ih]
def aK4 (x:Str) (t:Tok):aCt (.inr x) (.str x t)=true:=by simp [aCt,Rm]
def aWq (a b:Int):decide ((Mc a:Key)=Mc b)=(a==b):=by
 by_cases e:a=b
 ·subst e;simp
 ·have h:¬(Mc a:Key)=Mc b:=λq=>e (Sum.inl.inj q);rw [decide_eq_false h];exact(beq_eq_false_iff_ne.mpr e).symm
def aVm (a b:Str):decide ((Ct a:Key)=Ct b)=decide (a=b):=by
 by_cases e:a=b
 ·subst e;simp
 ·have h:¬(Ct a:Key)=Ct b:=λq=>e (Nu q);rw [decide_eq_false h,decide_eq_false e]
def aUm (a:Int) (b:Str):decide ((Mc a:Key)=Ct b)=false:=decide_eq_false (λq=>nomatch q)
def aWs (a:Str) (b:Int):decide ((Ct a:Key)=Mc b)=false:=decide_eq_false (λq=>nomatch q)
def eU (prog:Program) (w:World):PySem.KeyKind prog w Key where
 is:=aCt
 hash:=aZi w
 inj:=λv a b ha hb=>by
  rcases dN ha with ⟨i,t,rfl,rfl⟩|⟨x,t,rfl,rfl⟩
  ·rcases dN hb with ⟨j,u,rfl,e⟩|⟨y,u,rfl,e⟩
   ·injection e with e1 _;rw [e1]
   ·exact nomatch e
  ·rcases dN hb with ⟨j,u,rfl,e⟩|⟨y,u,rfl,e⟩
   ·exact nomatch e
   ·injection e with e1 _;rw [e1]
 byValue:=λk v h=>by
  rcases dN h with ⟨i,t,rfl,rfl⟩|⟨x,t,rfl,rfl⟩<;>rfl
 pyHash:=λhv h=>by
  rcases dN hv with ⟨i,t,rfl,rfl⟩|⟨x,t,rfl,rfl⟩
  ·exact wpAny_pyHash_int h
  ·exact wpAny_pyHash_str h
 eqBool:=λhu hv h=>by
  rcases dN hu with ⟨i,t,rfl,rfl⟩|⟨x,t,rfl,rfl⟩
  ·rcases dN hv with ⟨j,u,rfl,rfl⟩|⟨y,u,rfl,rfl⟩
   ·rw [aWq]at h;exact Mu h
   ·rw [aUm]at h;exact My i t y u _ _ _ _ h
  ·rcases dN hv with ⟨j,u,rfl,rfl⟩|⟨y,u,rfl,rfl⟩
   ·rw [aWs]at h;exact Mw x t j u _ _ _ _ h
   ·rw [aVm]at h;exact wpAny_eqBool_str h
 «strs»:=λk x t v h=>by
  rcases dN h with ⟨i,u,rfl,e⟩|⟨y,u,rfl,e⟩
  ·exact nomatch e
  ·injection e with e1 _
   subst e1;cases v<;>rfl
def aFp (prog:Program) (w:World) (i:Int) (t:Tok):(eU prog w).is (.inl i) (.int i t)=true:=aLx i t
def aFv (prog:Program) (w:World) (x:Str) (t:Tok):(eU prog w).is (.inr x) (.str x t)=true:=aK4 x t
inductive V where
 |non|bl (b:Bool)|int (i:Int)|str (x:Str)|byt (b:Array UInt8)|flt (b:UInt64)|ref (a:Addr)|ty (n:String)
 deriving DecidableEq
def RelV:V->Value->Prop
 | .non,u=>u=Ce
 | .bl b,u=>u=Ga b
 | .int i,u=>∃t,u=Cz i t
 | .str x,u=>∃t,u=Ka x t
 | .byt b,u=>∃t,u=Sx b t
 | .flt b,u=>∃t,u=Oq b t
 | .ref a,u=>u=An a
 | .ty n,u=>u=Ia n
abbrev Vals:List V->List Value->Prop:=Paired RelV
def Vals.length {xs:List V} (r:Vals xs us):xs.length=us.length:=Mo r
def Vals.get:∀{xs:List V} {us:List Value} {i:Nat} {x:V},Vals xs us->xs[i]? =some x->∃u,us[i]? =some u/\RelV x u
 |_,_,_,_,.nil,e=>by simp at e
 |_,_,0,_,.cons r _,e=>by simp at e;subst e;exact⟨_,rfl,r⟩
 |_,_,i+1,x,.cons _ t,e=>by
  obtain⟨u,h1,h2⟩:=Vals.get (i:=i) (x:=x) t (by simpa using e);exact⟨u,by simpa using h1,h2⟩
def Vals.set {x:V} (r:RelV x u):∀{xs:List V} {us:List Value} (i:Nat),Vals xs us->Vals (xs.set i x) (us.set i u)
 |_,_,_,.nil=> .nil
 |_,_,0,.cons _ t=> .cons r t
 |_,_,i+1,.cons q t=> .cons q (Vals.set r i t)
def Vals.append:∀{xs ys:List V} {us ws:List Value},Vals xs us->Vals ys ws->Vals (xs++ys) (us++ws)
 |_,_,_,_,.nil,s=>s
 |_,_,_,_,.cons r t,s=> .cons r (Vals.append t s)
def sX:Option V->Option Value->Prop
 |some v,some u=>RelV v u
 |none,none=>True
 |_,_=>False
def KV {κ:Type}:List (κ×V)->List (κ×Value)->Prop:=Paired λ(p:κ×V) (q:κ×Value)=>p.1=q.1/\RelV p.2 q.2
def kV:Key->V
 | .inl i=> .int i
 | .inr x=> .str x
inductive HO where
 |lst (xs:List V)
 |tup (xs:List V)
 |dK (kvs:List (Key×V))|dT (kvs:List (List Key×V))
 |set (S:Int->Bool) (n:Nat)
 |ins (C dx:Addr) (fs:List (Str×V))
 |own (x:Addr)
 |xd (fs:List (Str×V))
 |met (f x:Addr)
 |rng (lo hi:Int)
 |frz (o:Obj) (u:HO)
 |tbl (ps:Array Value)
 |ext (φ:Heap->Prop)
abbrev Hp:=Addr->Option HO
def upd (H:Hp) (a:Addr) (o:HO):Hp:=λb=>if b=a then some o else H b
def aJ {H:Hp} {a:Addr} {o:HO}:upd H a o a=some o:=by unfold upd;rw [if_pos rfl]
def aM {H:Hp} {a b:Addr} {o:HO} (h:b≠a):upd H a o b=H b:=by unfold upd;rw [if_neg h]
def aZb {H:Hp} {a b:Addr} {o u:HO} (h:H a=some o) (h':H b=some u) (d:o≠u):a≠b:=by
 intro e;subst e;rw [h]at h';exact d (Bl h')
def aQ {H:Hp} {a b:Addr} {o:HO} (h:H a=some o) (h':H b=none):a≠b:=by
 intro e;subst e;rw [h]at h';cases h'
section
variable (P:Program) (w:World)
def cL (H:Hp) (h:Heap) (a:Addr):HO->Prop
 | .lst xs=>xs.length<=sizeLine/\∃(its:List Value) (n:Nat),Vals xs its/\h.get? a=some {cls:= .type "list",data:= .seq its.toArray n}
 | .tup xs=>xs.length<=sizeLine/\∃its:List Value,Vals xs its/\IsTup h a its.toArray
 | .dK kvs=>kvs.length<=sizeLine/\(a==sysModules)=false/\∃vs,KV kvs vs/\h.DictOf (eU P w) a vs
 | .dT kvs=>kvs.length<=sizeLine/\(a==sysModules)=false/\∃xs:List (List Key×Addr×Value),
   Paired (λ(p:List Key×V) (q:List Key×Addr×Value)=>p.1=q.1/\H q.2.1=some (.tup (p.1.map kV))/\RelV p.2 q.2.2) kvs xs/\
   ∃o es ep,h.get? a=some o/\o.ExactDict/\o.data= .dict es ep/\es.toList=xs.map (entryOfKey (tupleKind (eU P w)))/\(xs.map (·.1)).Nodup
 | .set S n=>h.SetOf (intKind P w) a S n
 | .ins C dx fs=>H dx=some (.own a)/\fs.length<=1000/\dx≠a/\h.get? a=some (Er C dx)/\
   ∃mA,h.Ns1 dx mA/\(∀f,sX (fs.lookup f) (mA f))/\Nx mA (fs.map (·.1))
 | .own _=>∃o,h.get? a=some o
 | .xd fs=>∃mA,h.Ns1 a mA/\∀f,sX (fs.lookup f) (mA f)
 | .rng lo hi=>∃t u v,h.get? a=some {cls:= .type "range",data:= .fields #[.int lo t,.int hi u,.int 1 v]}
 | .frz o u=>h.get? a=some o/\cL H h a u
 | .tbl ps=>h.get? a=some {cls:= .none,data:= .fields ps}
 | .met f x=>h.get? a=some (Kb (.ref f) (.ref x))
 | .ext φ=>φ h/\(∃o,h.get? a=some o)/\∀h1 h2:Heap,φ h1->(∀o,h1.get? a=some o->h2.get? a=some o)->φ h2
def HOk (H:Hp) (h:Heap):Prop:=∀a o,H a=some o->cL P w H h a o
end
variable {P:Program} {w:World} {H H':Hp} {h h':Heap} {a:Addr} {o:HO}
def cL.lt (x:cL P w H h a o):a<h.objs.size:=by
 cases o with
 |lst xs=>obtain⟨_,_,_,_,e⟩:=x;exact Ap e
 |tup xs=>obtain⟨_,_,_,p⟩:=x;exact p.lt
 |dK kvs=>obtain⟨_,_,_,_,o,_,_,e,_⟩:=x;exact Ap e
 |dT kvs=>obtain⟨_,_,_,_,o,_,_,e,_⟩:=x;exact Ap e
 |set S n=>obtain⟨o,_,_,_,e,_⟩:=x;exact Ap e
 |ins C dx fs=>obtain⟨_,_,_,e,_⟩:=x;exact Ap e
 |own y=>obtain⟨_,e⟩:=x;exact Ap e
 |xd fs=>obtain⟨_,⟨_,_,_,e,_⟩,_⟩:=x;exact Ap e
 |rng lo hi=>obtain⟨_,_,_,e⟩:=x;exact Ap e
 |frz ob u=>obtain⟨e,_⟩:=x;exact Ap e
 |tbl ps=>exact Ap (show h.get? a=some _ from x)
 |met f y=>exact Ap (show h.get? a=some _ from x)
 |ext φ=>obtain⟨_,⟨_,e⟩,_⟩:=x;exact Ap e
def Paired.mapP {α β:Type} {F G:α->β->Prop}:∀{l₁:List α} {l₂:List β},Paired F l₁ l₂->(∀a b,F a b->G a b)->Paired G l₁ l₂
 |_,_,.nil,_=> .nil
 |_,_,.cons r t,f=> .cons (f _ _ r) (Paired.mapP t f)
def cL.stay (x:cL P w H h a o) (k:∀b u,(b=a∨H b=some (.own a))->h.get? b=some u->h'.get? b=some u)
  (ho:∀b,H b=some (.own a)->H' b=some (.own a)) (ht:∀b xs,H b=some (.tup xs)->H' b=some (.tup xs)):cL P w H' h' a o:=by
 induction o with
 |lst xs=>obtain⟨z,its,n,r,e⟩:=x;exact⟨z,its,n,r,k _ _ (.inl rfl) e⟩
 |tup xs=>obtain⟨z,its,r,ob,e,c⟩:=x;exact⟨z,its,r,ob,k _ _ (.inl rfl) e,c⟩
 |dK kvs=>obtain⟨z,y,vs,r,ob,es,ep,e,c⟩:=x;exact⟨z,y,vs,r,ob,es,ep,k _ _ (.inl rfl) e,c⟩
 |dT kvs=>
  obtain⟨z,y,xs,r,ob,es,ep,e,c⟩:=x;exact⟨z,y,xs,Paired.mapP r λp q z=>⟨z.1,ht _ _ z.2.1,z.2.2⟩,ob,es,ep,k _ _ (.inl rfl) e,c⟩
 |set S n=>obtain⟨ob,es,ep,t,e,c⟩:=x;exact⟨ob,es,ep,t,k _ _ (.inl rfl) e,c⟩
 |ins C dx fs=>
  obtain⟨d,z,ne,e,mA,⟨od,es,ep,e2,c⟩,r⟩:=x;exact⟨ho _ d,z,ne,k _ _ (.inl rfl) e,mA,⟨od,es,ep,k _ _ (.inr d) e2,c⟩,r⟩
 |own y=>obtain⟨ob,e⟩:=x;exact⟨ob,k _ _ (.inl rfl) e⟩
 |xd fs=>obtain⟨mA,⟨od,es,ep,e,c⟩,r⟩:=x;exact⟨mA,⟨od,es,ep,k _ _ (.inl rfl) e,c⟩,r⟩
 |rng lo hi=>obtain⟨t,u,v,e⟩:=x;exact⟨t,u,v,k _ _ (.inl rfl) e⟩
 |frz ob u ih=>obtain⟨e,q⟩:=x;exact⟨k _ _ (.inl rfl) e,ih q⟩
 |tbl ps=>
  have e:h.get? a=some {cls:= .none,data:= .fields ps}:=x;show h'.get? a=some {cls:= .none,data:= .fields ps};exact k a _ (.inl rfl) e
 |met f y=>
  have e:h.get? a=some (Kb (.ref f) (.ref y)):=x;show h'.get? a=some (Kb (.ref f) (.ref y));exact k a _ (.inl rfl) e
 |ext φ=>obtain⟨p,⟨o,e⟩,st⟩:=x;exact⟨st _ _ p λo q=>k _ _ (.inl rfl) q,⟨o,k _ _ (.inl rfl) e⟩,st⟩
def HOk.lt (x:HOk P w H h) (e:H a=some o):a<h.objs.size:=(x a o e).lt
def HOk.fresh (x:HOk P w H h) (e:h.objs.size<=a):H a=none:=by
 cases q:H a with
 |none=>rfl
 |some u=>exact absurd (Bf (x.lt q) e) (Eg _)
def HOk.kept (x:HOk P w H h) (k:∀b u,h.get? b=some u->h'.get? b=some u):HOk P w H h':=λa o e=>
 (x a o e).stay (λb u _ q=>k b u q) (λ_ q=>q) λ_ _ q=>q
def HOk.laid (x:HOk P w H h) (k:∀b u,h.get? b=some u->h'.get? b=some u) (hp:h.objs.size<=a) (new:cL P w (upd H a o) h' a o):HOk P w (upd H a o) h':=λb u e=>by
 have hn:=x.fresh hp;by_cases hb:b=a
 ·subst hb;rw [aJ]at e;cases e;exact new
 ·rw [aM hb]at e;exact(x b u e).stay (λc v _ q=>k c v q) (λc q=>by rw [aM (aQ q hn)];exact q) λc xs q=>by rw [aM (aQ q hn)];exact q
def Rd (H:Hp) (a:Addr) (u:HO):Prop:=H a=some u∨∃o,H a=some (.frz o u)
def Rd.ok {P:Program} {w:World} {H:Hp} {h:Heap} {a:Addr} {u:HO} (r:Rd H a u) (x:HOk P w H h):cL P w H h a u:=by
 rcases r with r|⟨o,r⟩
 ·exact x a u r
 ·obtain⟨_,q⟩:=x a _ r;exact q
def Mut:Option HO->Prop
 |some (.lst _)=>True
 |some (.dK _)=>True
 |some (.dT _)=>True
 |some (.set _ _)=>True
 |some (.ins _ _ _)=>True
 |some (.ext _)=>True
 |_=>False
variable {x e:Addr} {o':HO}
def HOk.write (ok:HOk P w H h) (mu:Mut (H x)) (he:e=x∨H e=some (.own x)) (k:∀b u,b≠e->h.get? b=some u->h'.get? b=some u) (heo:∃u,h'.get? e=some u)
  (new:cL P w (upd H x o') h' x o'):HOk P w (upd H x o') h':=λb u q=>by
 have nown:∀c y,H c=some (.own y)->c≠x:=λc y r z=>by subst z;rw [r]at mu;exact mu
 have ntup:∀c xs,H c=some (.tup xs)->c≠x:=λc xs r z=>by subst z;rw [r]at mu;exact mu
 by_cases hb:b=x
 ·subst hb;rw [aJ]at q;cases q;exact new
 ·rw [aM hb]at q;by_cases hbe:b=e
  ·have q':H b=some (.own x):=by
    rcases he with z|z
    ·exact absurd (hbe.trans z) hb
    ·rw [hbe];exact z
   rw [q]at q';cases q';obtain⟨v,hv⟩:=heo;exact⟨v,by rw [hbe];exact hv⟩
  ·refine(ok b u q).stay (λc v hc r=>k c v ?_ r) (λc r=>by rw [aM (nown c b r)];exact r) λc xs r=>by rw [aM (ntup c xs r)];exact r
   rcases hc with rfl|hc
   ·exact hbe
   ·rintro rfl;rcases he with z|z
    ·exact nown c b hc z
    ·rw [hc]at z;cases z;exact hb rfl
structure Un (fs ex:List Addr) (H H':Hp) (h h':Heap):Prop where
 keep:∀b o,h.get? b=some o->H b=none->b∉fs->b∉ex->h'.get? b=some o
 slot:∀b o,h.get? b=some o->H b=none->b∈fs->b∉ex->∃sl,h'.get? b=some {o with slots:=sl}
 free:∀b o,h.get? b=some o->H b=none->b∉ex->H' b=none
 there:∀b o,h.get? b=some o->b∉ex->∃o',h'.get? b=some o'
 tups:∀b xs,H b=some (.tup xs)->H' b=some (.tup xs)
 frzs:∀b o u,H b=some (.frz o u)->H' b=some (.frz o u)
 tbls:∀b ps,H b=some (.tbl ps)->∃more,H' b=some (.tbl (ps++more))
section
variable {fs fs' ex ex':List Addr} {H H1 H2:Hp} {h h1 h2 h':Heap} {a x e:Addr} {o:HO}
def Un.any (u:Un fs ex H H1 h h1) {ob:Obj} (q:h.get? b=some ob) (n:H b=none) (hx:b∉ex):∃sl,h1.get? b=some {ob with slots:=sl}:=by
 by_cases hb:b∈fs
 ·exact u.slot b ob q n hb hx
 ·exact⟨ob.slots,u.keep b ob q n hb hx⟩
def Un.kept (k:∀b u,h.get? b=some u->h'.get? b=some u):Un fs ex H H h h':=
 ⟨λb ob q _ _ _=>k b ob q,λb ob q _ _ _=>⟨ob.slots,k b ob q⟩,λ_ _ _ n _=>n,λb ob q _=>⟨ob,k b ob q⟩,λ_ _ q=>q,λ_ _ _ q=>q,λ_ ps q=>⟨#[],by rw [q];simp⟩⟩
def Un.refl:Un fs ex H H h h:=Un.kept λ_ _ q=>q
def Un.laid (k:∀b u,h.get? b=some u->h'.get? b=some u) (hp:h.objs.size<=a) (hn:H a=none):Un fs ex H (upd H a o) h h' where
 keep:=λb u q _ _ _=>k b u q
 slot:=λb u q _ _ _=>⟨u.slots,k b u q⟩
 free:=λb u q n _=>by rw [aM (Ax (Bf (Ap q) hp))];exact n
 there:=λb u q _=>⟨u,k b u q⟩
 tups:=λb xs q=>by rw [aM (aQ q hn)];exact q
 frzs:=λb u xs q=>by rw [aM (aQ q hn)];exact q
 tbls:=λb ps q=>⟨#[],by rw [aM (aQ q hn),q];simp⟩
def Un.write (mu:Mut (H x)) (he:e=x∨H e=some (.own x)) (k:∀b u,b≠e->h.get? b=some u->h'.get? b=some u) (heo:∃u,h'.get? e=some u):Un fs ex H (upd H x o) h h':=by
 have hx:∀b,H b=none->b≠x:=λb n z=>by subst z;rw [n]at mu;exact mu
 have hb:∀b,H b=none->b≠e:=λb n z=>by
  subst z;rcases he with r|r
  ·exact hx b n r
  ·rw [n]at r;cases r
 have hm:∀b u,H b=some u->¬Mut (some u)->b≠x:=λb u q nm z=>by subst z;rw [q]at mu;exact nm mu
 refine⟨λb u q n _ _=>k b u (hb b n) q,λb u q n _ _=>⟨u.slots,k b u (hb b n) q⟩,λb u q n _=>by rw [aM (hx b n)];exact n,λb u q _=>?_,
  λb xs q=>by rw [aM (hm b _ q λz=>z)];exact q,λb u xs q=>by rw [aM (hm b _ q λz=>z)];exact q,λb ps q=>⟨#[],by rw [aM (hm b _ q λz=>z),q];simp⟩⟩
 by_cases hbe:b=e
 ·subst hbe;exact heo
 ·exact⟨u,k b u hbe q⟩
end
def trk (h:Heap) (H:Hp):List Addr:=(Bq h.objs.size).filter λa=>(H a).isSome
def aDn (h:Heap) (H:Hp):Heap:=PySem.W.hideAll h (trk h H)
def aLc (h:Heap) (H:Hp):(aDn h H).objs.size=h.objs.size:=PySem.W.hideAll_size _ _
def aMs {h:Heap} {H:Hp} {o:Obj} (e:h.get? b=some o) (n:H b=none):(aDn h H).get? b=some o:=
 PySem.W.hideAll_get _ e λhm=>by
  have q:(H b).isSome=true:=(List.mem_filter.mp hm).2;rw [n]at q;simp at q
def aRn {h:Heap} {H:Hp} {o:Obj} (e:(aDn h H).get? b=some o):h.get? b=some o/\H b=none:=by
 have e':h.get? b=some o:=PySem.W.of_hideAll (trk h H) e;refine⟨e',?_⟩;cases q:H b with
 |none=>rfl
 |some x=>
  have hm:b∈trk h H:=List.mem_filter.mpr ⟨List.mem_range.mpr (Ap e'),by simp [q]⟩;have z:(aDn h H).get? b=none:=PySem.W.hideAll_none (trk h H) hm;rw [z]at e;cases e
structure Mod (K:Ac) (mg:Str->Option Value) (base:Heap):Prop where
 kin:K.In base
 glob:base.Ns mainGlobals mg
 blt:∃mb,base.Ns builtinsNs mb/\∀x:Str,x≠"__name__"->mb x=bootBuiltins x
 nolimit:base.NoLimit
structure Cx where
 prog:Program
 w:World
 K:Ac
 mg:Str->Option Value
 base:Heap
 A:Around
 N:List Str
 s₀:Shared
 H₀:Hp
 env:Env
 outer:List Env
 stack:List Env
 ex:List Addr
 fn:Str->Bool
 calm:Bool
 pn:List (Addr×Obj)
 xe:Value->Shared->Prop
def frs (l:List Env):List Addr:=l.filterMap (·.frame)
abbrev Cx.fs (X:Cx):List Addr:=frs X.outer
def Vis (sc:Scope) (x:Str):Prop:=sc.names.lookup x=some .local∨sc.names.lookup x=some .cell∨sc.names.lookup x=some .free
def Loc (sc:Scope) (x:Str):Prop:=sc.names.lookup x=some .local∨sc.names.lookup x=some .cell
def Look (env:Env) (h:Heap) (m:Str->Option Value) (x:Str) (u:Value):Prop:=
 (env.kindOf x=some .local/\m x=some u)∨((env.kindOf x=some .cell∨env.kindOf x=some .free)/\∃c,env.cells.lookup x=some c/\h.IsCell c (some u))
structure Cx.Ok (X:Cx):Prop where
 mod:Mod X.K X.mg X.base
 kind:X.env.scope.kind= .function
 glob:X.env.globals=mainGlobals
 blt:X.env.builtins=builtinsNs
 above:X.s₀.heap.objs.size<=X.env.locals
 inj:∀x y c,X.env.cells.lookup x=some c->X.env.cells.lookup y=some c->x=y
 has:∀x,(X.env.kindOf x=some .cell∨X.env.kindOf x=some .free)->∃c,X.env.cells.lookup x=some c
 cab:∀x c,X.fn x=true->X.env.cells.lookup x=some c->X.s₀.heap.objs.size<=c
 hd:X.calm=true->X.A.handled=none
 frames:X.A.frames=some X.stack
 stk:X.stack=X.outer∨(X.stack=X.env::X.outer/\X.env.frame=some X.env.locals)
 exf:∀b∈X.ex,b≠X.env.locals/\∀x c,X.env.cells.lookup x=some c->c≠b
 bs:∀b o,X.base.get? b=some o->X.s₀.heap.get? b=some o/\X.H₀ b=none
 bsz:X.base.objs.size<=X.s₀.heap.objs.size
 noex:∀b o,X.base.get? b=some o->b∉X.ex
 exfs:∀b∈X.ex,b∉X.fs
 funs:X.s₀.heap.FunFrames X.base X.outer
 frf:∀b∈X.fs,X.H₀ b=none
structure Inv (X:Cx) (pins:List (Addr×Obj)) (σ:List (Option V)) (H:Hp) (s:Shared):Prop where
 ok:X.Ok
 os:s.os=X.s₀.os
 bare:AllBare s.gens
 base:Un X.fs X.ex X.H₀ H X.s₀.heap s.heap
 loc:∃m,s.heap.Ns X.env.locals m/\∀(i:Nat) (x:Str) (v:V),X.N[i]? =some x->σ[i]? =some (some v)->Vis X.env.scope x->∃u,RelV v u/\Look X.env s.heap m x u
 cell:∀x c,X.env.cells.lookup x=some c->∃v,s.heap.IsCell c v
 free:H X.env.locals=none
 freeC:∀x c,X.env.cells.lookup x=some c->H c=none
 pin:∀p∈X.pn++pins,s.heap.get? p.1=some p.2/\H p.1=none/\p.1≠X.env.locals/\p.1∉X.fs/\∀v,p.2.data≠ .cell v
 hok:HOk X.prog X.w H s.heap
 len:σ.length=X.N.length
variable {X:Cx} {pins:List (Addr×Obj)} {σ:List (Option V)} {s:Shared}
def Cx.Ok.nofr (ok:X.Ok) {o:Obj} (e:X.base.get? b=some o):b∉X.fs:=λhb=>by
 have:=(ok.funs.mem hb).1;rw [e]at this;cases this
def Inv.bs (I:Inv X pins σ H s):∀b o,X.base.get? b=some o->s.heap.get? b=some o/\H b=none:=λb o e=>
 ⟨I.base.keep b o (I.ok.bs b o e).1 (I.ok.bs b o e).2 (I.ok.nofr e) (I.ok.noex b o e),I.base.free b o (I.ok.bs b o e).1 (I.ok.bs b o e).2 (I.ok.noex b o e)⟩
def Inv.bk (I:Inv X pins σ H s):∀b o,X.base.get? b=some o->s.heap.get? b=some o:=λb o e=>(I.bs b o e).1
def Inv.mod (I:Inv X pins σ H s):Mod X.K X.mg X.base:=I.ok.mod
def Inv.kIn (I:Inv X pins σ H s):X.K.In s.heap:=I.ok.mod.kin.keeps I.bk
def Inv.lt (I:Inv X pins σ H s):X.env.locals<s.heap.objs.size:=let⟨_,hn,_⟩:=I.loc;hn.lt
def Inv.sz (I:Inv X pins σ H s):X.s₀.heap.objs.size<=s.heap.objs.size:=Cp I.ok.above (Eh I.lt)
def Inv.nofs (I:Inv X pins σ H s) {a:Addr} (h:s.heap.objs.size<=a):a∉X.fs:=λhb=>by
 obtain⟨_,o,ho,_⟩:=I.ok.funs.mem hb;exact absurd (Bf (Ap ho) (Cp I.sz h)) (Eg _)
def Inv.cne (I:Inv X pins σ H s):∀x c,X.env.cells.lookup x=some c->c≠X.env.locals:=λx c e z=>by
 obtain⟨v,o,ho,hd⟩:=I.cell x c e;obtain⟨m,⟨o',es,ep,ho',hd',_⟩,_⟩:=I.loc;rw [z,ho']at ho;cases ho;rw [hd']at hd;cases hd
def Inv.funs (I:Inv X pins σ H s):s.heap.FunFrames X.base X.outer:=by
 have all:∀(l:List Env),(∀b∈frs l,b∈X.fs)->X.s₀.heap.FunFrames X.base l->s.heap.FunFrames X.base l:=by
  intro l;induction l with
  |nil=>intro _ _;trivial
  |cons env r ih=>
   intro hs hl;obtain⟨hk,⟨L,o,hf,hn,ho,hd⟩,hr⟩:=hl;have hL:L∈X.fs:=hs L (by unfold frs;rw [Gc,hf];exact Ae);obtain⟨sl,e⟩:=I.base.slot L o ho (I.ok.frf L hL) hL λz=>I.ok.exfs L z hL;exact⟨hk,⟨L,_,hf,hn,e,hd⟩,ih (λb hb=>hs b (by unfold frs;rw [Gc,hf];exact Ad _ hb)) hr⟩
 exact all X.outer (λ_ hb=>hb) I.ok.funs
def Inv.stack (I:Inv X pins σ H s):s.heap.FunFrames X.base X.stack:=by
 rcases I.ok.stk with e|⟨e,hf⟩
 ·rw [e];exact I.funs
 ·rw [e];obtain⟨m,hn,_⟩:=I.loc;refine .cons (by rw [I.ok.kind];decide) hf hn ?_ I.funs;exact Jp (Cp I.ok.bsz I.ok.above)
def Inv.stkSub (I:Inv X pins σ H s):∀b∈frs X.stack,b∈X.env.locals::X.fs:=λb hb=>by
 rcases I.ok.stk with e|⟨e,hf⟩
 ·rw [e]at hb;exact Ad _ hb
 ·rw [e]at hb;unfold frs at hb;rw [Gc,hf]at hb;exact hb
def Inv.stkFree (I:Inv X pins σ H s):∀b∈frs X.stack,H b=none:=λb hb=>by
 rcases List.mem_cons.mp (I.stkSub b hb)with e|hb
 ·rw [e];exact I.free
 ·obtain⟨_,o,ho,_⟩:=I.ok.funs.mem hb;exact I.base.free b o ho (I.ok.frf b hb) λz=>I.ok.exfs b z hb
def Inv.step {d':Drawn} (I:Inv X pins σ H s)
  (hch:∀b∈ch,(b∈X.ex∨X.s₀.heap.objs.size<=b)/\b≠X.env.locals/\(∀x c,X.env.cells.lookup x=some c->c≠b)/\∀p∈X.pn++pins,p.1≠b)
  (keep:∀b o,b≠X.env.locals->b∉X.fs->b∉ch->s.heap.get? b=some o->H b=none->h'.get? b=some o)
  (slot:∀b o,b≠X.env.locals->b∈X.fs->b∉ch->s.heap.get? b=some o->H b=none->∃sl,h'.get? b=some {o with slots:=sl}) (free:∀b o,b∉ch->s.heap.get? b=some o->H b=none->H' b=none)
  (there:∀b o,b∉ch->s.heap.get? b=some o->∃o',h'.get? b=some o')
  (tups:∀b xs,H b=some (.tup xs)->H' b=some (.tup xs)) (frzs:∀b o u,H b=some (.frz o u)->H' b=some (.frz o u)) (tbls:∀b ps,H b=some (.tbl ps)->∃more,H' b=some (.tbl (ps++more)))
  (ns:∀m,s.heap.Ns X.env.locals m->h'.Ns X.env.locals m) (hok:HOk X.prog X.w H' h') (hg:AllBare g'):
  Inv X pins σ H' {s with heap:=h',gens:=g',drawn:=d',toks:=t'}:=by
 have neL:∀b o,X.s₀.heap.get? b=some o->b≠X.env.locals:=λb o e=>Ax (Bf (Ap e) I.ok.above);have neC:∀b o,X.s₀.heap.get? b=some o->b∉X.ex->b∉ch:=λb o e hx hb=>by
  rcases (hch b hb).1 with z|z
  ·exact hx z
  ·exact absurd (Bf (Ap e) z) (Eg _)
 have cellK:∀x c,X.env.cells.lookup x=some c->∀v,s.heap.IsCell c v->h'.IsCell c v:=λx c e v ⟨o,ho,hd⟩=>by
  have nch:c∉ch:=λz=>(hch c z).2.2.1 x c e rfl;by_cases hc:c∈X.fs
  ·obtain⟨sl,q⟩:=slot c o (I.cne x c e) hc nch ho (I.freeC x c e);exact⟨_,q,hd⟩
  ·exact⟨o,keep c o (I.cne x c e) hc nch ho (I.freeC x c e),hd⟩
 refine⟨I.ok,I.os,hg,⟨λb o e n hb hx=>?_,λb o e n hb hx=>?_,λb o e n hx=>?_,λb o e hx=>?_,λb xs e=>tups b xs (I.base.tups b xs e),λb o xs e=>frzs b o xs (I.base.frzs b o xs e),λb ps e=>?_⟩,?_,λx c e=>?_,?_,λx c e=>?_,λp hp=>?_,hok,I.len⟩
 ·exact keep b o (neL b o e) hb (neC b o e hx) (I.base.keep b o e n hb hx) (I.base.free b o e n hx)
 ·obtain⟨sl,e1⟩:=I.base.slot b o e n hb hx;obtain⟨sl',e2⟩:=slot b _ (neL b o e) hb (neC b o e hx) e1 (I.base.free b o e n hx);exact⟨sl',e2⟩
 ·obtain⟨o',e1⟩:=I.base.there b o e hx;exact free b o' (neC b o e hx) e1 (I.base.free b o e n hx)
 ·obtain⟨o',e1⟩:=I.base.there b o e hx;exact there b o' (neC b o e hx) e1
 ·obtain⟨m1,e1⟩:=I.base.tbls b ps e;obtain⟨m2,e2⟩:=tbls b _ e1;exact⟨m1++m2,by rw [e2,Array.append_assoc]⟩
 ·obtain⟨m,hn,hl⟩:=I.loc;refine⟨m,ns m hn,λi x v e1 e2 e3=>?_⟩;obtain⟨u,r,l⟩:=hl i x v e1 e2 e3;refine⟨u,r,?_⟩;rcases l with l|⟨k,c,e,z⟩
  ·exact .inl l
  ·exact .inr ⟨k,c,e,cellK x c e _ z⟩
 ·obtain⟨v,z⟩:=I.cell x c e;exact⟨v,cellK x c e v z⟩
 ·obtain⟨m,⟨o,_,_,ho,_⟩,_⟩:=I.loc;exact free _ o (λz=>(hch _ z).2.1 rfl) ho I.free
 ·obtain⟨v,o,ho,hd⟩:=I.cell x c e;exact free c o (λz=>(hch c z).2.2.1 x c e rfl) ho (I.freeC x c e)
 ·obtain⟨e,n,ne,nf,d⟩:=I.pin p hp;have nch:p.1∉ch:=λz=>(hch p.1 z).2.2.2 p hp rfl;exact⟨keep p.1 p.2 ne nf nch e n,free p.1 p.2 nch e n,ne,nf,d⟩
def Inv.un (I:Inv X pins σ H s) (u:Un X.fs [] H H' s.heap h') (hok:HOk X.prog X.w H' h'):Inv X pins σ H' {s with heap:=h',toks:=t'}:=by
 obtain⟨m,⟨o,es,ep,ho,r⟩,_⟩:=id I.loc;obtain⟨sl,hL⟩:=u.any ho I.free (by simp);exact I.step (g':=s.gens) (d':=s.drawn) (ch:=[]) (λ_ z=>nomatch z) (λb o _ hb _ e n=>u.keep b o e n hb (by simp)) (λb o _ hb _ e n=>u.slot b o e n hb (by simp)) (λb o _ e n=>u.free b o e n (by simp)) (λb o _ e=>u.there b o e (by simp)) u.tups u.frzs u.tbls (λm' hm=>by
  obtain⟨o',es',ep',ho',r'⟩:=hm;rw [ho]at ho';cases ho';exact⟨_,es',ep',hL,r'⟩) hok I.bare
def Inv.call {d':Drawn} (I:Inv X pins σ H s) (u:Un (frs X.stack) ch H H' s.heap h') (hok:HOk X.prog X.w H' h') (hg:AllBare g')
  (hch:∀b∈ch,(b∈X.ex∨X.s₀.heap.objs.size<=b)/\b≠X.env.locals/\(∀x c,X.env.cells.lookup x=some c->c≠b)/\∀p∈X.pn++pins,p.1≠b):
  Inv X pins σ H' {s with heap:=h',gens:=g',drawn:=d',toks:=t'}:=by
 obtain⟨m,⟨o,es,ep,ho,r⟩,_⟩:=id I.loc;obtain⟨sl,hL⟩:=u.any ho I.free λz=>(hch _ z).2.1 rfl;exact I.step (ch:=ch) hch (λb o hL hb hc e n=>u.keep b o e n (λz=>(List.mem_cons.mp (I.stkSub b z)).elim hL hb) hc) (λb o _ _ hc e n=>u.any e n hc) (λb o hc e n=>u.free b o e n hc) (λb o hc e=>u.there b o e hc) u.tups u.frzs u.tbls (λm' hm=>by
  obtain⟨o',es',ep',ho',r'⟩:=hm;rw [ho]at ho';cases ho';exact⟨_,es',ep',hL,r'⟩) hok hg
def Inv.turned {it:Addr} (I:Inv X pins σ H s) (k:∀b o,b≠it->s.heap.get? b=some o->h'.get? b=some o) (hn:H it=none) (hL:it≠X.env.locals)
  (h1:it∈X.ex∨X.s₀.heap.objs.size<=it) (h2:∀x c,X.env.cells.lookup x=some c->c≠it) (h3:∀p∈X.pn++pins,p.1≠it):Inv X pins σ H {s with heap:=h',toks:=t'}:=by
 have nit:∀b u,H b=some u->b≠it:=λb u e z=>by rw [z,hn]at e;cases e
 refine I.step (g':=s.gens) (d':=s.drawn) (ch:=[it]) (λb hb=>?_) (λb o _ _ hc e _=>k b o (λz=>hc (by simp [z])) e) (λb o _ _ hc e _=>⟨o.slots,k b o (λz=>hc (by simp [z])) e⟩) (λ_ _ _ _ n=>n)
  (λb o hc e=>⟨o,k b o (λz=>hc (by simp [z])) e⟩) (λ_ _ e=>e) (λ_ _ _ e=>e) (λb ps e=>⟨#[],by rw [e];simp⟩) (λm hm=>?_) (λb u e=>?_) I.bare
 ·have e:b=it:=by simpa using hb
  subst e;exact⟨h1,hL,h2,h3⟩
 ·obtain⟨o,es,ep,ho,r⟩:=hm;exact⟨o,es,ep,k _ o (Cy hL) ho,r⟩
 ·refine(I.hok b u e).stay (λc v hc q=>k c v ?_ q) (λ_ q=>q) λ_ _ q=>q;rcases hc with z|z
  ·rw [z];exact nit b u e
  ·exact nit c _ z
def Inv.tok (I:Inv X pins σ H s) (t:Nat):Inv X pins σ H {s with toks:=t}:=I.un (h':=s.heap) (t':=t) Un.refl I.hok
def Inv.kept (I:Inv X pins σ H s) (k:∀b u,s.heap.get? b=some u->h'.get? b=some u):Inv X pins σ H {s with heap:=h',toks:=t'}:=I.un (Un.kept k) (I.hok.kept k)
def Inv.laid {a:Addr} {o:HO} (I:Inv X pins σ H s) (k:∀b u,s.heap.get? b=some u->h'.get? b=some u) (hp:s.heap.objs.size<=a) (new:cL X.prog X.w (upd H a o) h' a o):
  Inv X pins σ (upd H a o) {s with heap:=h',toks:=t'}:=I.un (Un.laid k hp (I.hok.fresh hp)) (I.hok.laid k hp new)
def Inv.write {x e:Addr} {o:HO} (I:Inv X pins σ H s) (mu:Mut (H x)) (he:e=x∨H e=some (.own x)) (k:∀b u,b≠e->s.heap.get? b=some u->h'.get? b=some u) (heo:∃u,h'.get? e=some u)
  (new:cL X.prog X.w (upd H x o) h' x o):Inv X pins σ (upd H x o) {s with heap:=h',toks:=t'}:=I.un (Un.write mu he k heo) (I.hok.write mu he k heo new)
def Inv.pins_of {pins':List (Addr×Obj)} (I:Inv X pins σ H s) (h:∀p∈pins',s.heap.get? p.1=some p.2/\H p.1=none/\p.1≠X.env.locals/\p.1∉X.fs/\∀v,p.2.data≠ .cell v):Inv X pins' σ H s:=
 ⟨I.ok,I.os,I.bare,I.base,I.loc,I.cell,I.free,I.freeC,λp hp=>(List.mem_append.mp hp).elim (λz=>I.pin p (Es _ z)) (h p),I.hok,I.len⟩
def aF2 {N:List Str} (hN:N.Nodup) {i j:Nat} {x:Str} (a:N[i]? =some x) (b:N[j]? =some x):i=j:=by
 obtain⟨h1,e1⟩:=List.getElem?_eq_some_iff.mp a;obtain⟨h2,e2⟩:=List.getElem?_eq_some_iff.mp b;exact(Lb hN).mp (e1.trans e2.symm)
def aBx {M:Model} {x:Str} {v:V} {Q:Unit->Shared->Prop} (I:Inv X pins σ H s) (hN:X.N.Nodup) (hi:X.N[i]? =some x) (hx:Loc X.env.scope x) (r:RelV v u)
  (h:∀s',Inv X pins (σ.set i (some v)) H s'->(∃a,Cw a s.heap s'.heap/\(a=X.env.locals∨X.env.cells.lookup x=some a))->Q () s') (hf:X.fn x=true∨X.env.scope.names.lookup x=some .local:=by first|exact .inl rfl|exact .inr rfl|assumption):wpAny M A (storeName X.env x u) Q E s:=by
 obtain⟨m,hn,hl⟩:=id I.loc;have hcls:(X.env.scope.kind== .class || (X.env.scope.kind== .module && X.env.locals != X.env.globals))=false:=by rw [I.ok.kind];rfl
 have hiσ:i<σ.length:=by rw [I.len];exact(List.getElem?_eq_some_iff.mp hi).1
 have cne:=I.cne;have tracked:∀{a:Addr} {h':Heap},(∃o,s.heap.get? a=some o/\H a=none)->Cw a s.heap h'->HOk X.prog X.w H h':=λ{a h'} ha hs b ob e=>by
  obtain⟨_,_,hfree⟩:=ha;refine(I.hok b ob e).stay (λc w' hc q=>(hs.2 c ?_).trans q) (λ_ q=>q) λ_ _ q=>q;rintro rfl;rcases hc with rfl|hc
  ·rw [hfree]at e;cases e
  ·rw [hfree]at hc;cases hc
 rcases hx with hk|hk
 ·refine wpAny_storeName_local hk hn (λh' hn' hs=>?_) hcls;obtain⟨oL,_,_,hoL,_⟩:=id hn;refine h _ ⟨I.ok,I.os,I.bare,⟨λb o e n hb hx=>?_,λb o e n hb hx=>?_,I.base.free,λb o e hx=>?_,I.base.tups,I.base.frzs,I.base.tbls⟩,⟨_,hn',λj y v' e1 e2 e3=>?_⟩,λy c e=>?_,I.free,I.freeC,λp hp=>?_,tracked ⟨oL,hoL,I.free⟩ hs,by simpa using I.len⟩ ⟨_,hs,.inl rfl⟩
  ·exact(hs.2 b (Ax (Bf (Ap e) I.ok.above))).trans (I.base.keep b o e n hb hx)
  ·obtain⟨sl,e1⟩:=I.base.slot b o e n hb hx;exact⟨sl,(hs.2 b (Ax (Bf (Ap e) I.ok.above))).trans e1⟩
  ·obtain⟨o',e1⟩:=I.base.there b o e hx;exact⟨o',(hs.2 b (Ax (Bf (Ap e) I.ok.above))).trans e1⟩
  ·by_cases hj:j=i
   ·subst hj;rw [hi]at e1;cases e1;rw [Oc hiσ]at e2;cases e2;exact⟨u,r,.inl ⟨hk,by simp⟩⟩
   ·rw [Pa (Cy hj)]at e2;obtain⟨u',r',q⟩:=hl j y v' e1 e2 e3;refine⟨u',r',?_⟩;rcases q with ⟨k,e⟩|⟨k,c,e,z⟩
    ·refine .inl ⟨k,?_⟩;have:y≠x:=λe=>hj (aF2 hN e1 (e▸hi));simp [this,e]
    ·exact .inr ⟨k,c,e,z.sameBut hs (cne y c e)⟩
  ·obtain⟨w',z⟩:=I.cell y c e;exact⟨w',z.sameBut hs (cne y c e)⟩
  ·obtain⟨e,n,ne,nf,d⟩:=I.pin p hp;exact⟨(hs.2 p.1 ne).trans e,n,ne,nf,d⟩
 ·have hfn:X.fn x=true:=by
   rcases hf with z|z
   ·exact z
   ·rw [z]at hk;cases hk
  obtain⟨c,hc⟩:=I.ok.has x (.inl hk);obtain⟨w',z⟩:=I.cell x c hc;refine wpAny_storeName_cell I.ok.kind hk hc z (λh' hc' hs=>?_);obtain⟨oc,hoc,hocd⟩:=id z;refine h {s with heap:=h'} ⟨I.ok,I.os,I.bare,⟨λb o e n hb hx=>?_,λb o e n hb hx=>?_,I.base.free,λb o e hx=>?_,I.base.tups,I.base.frzs,I.base.tbls⟩,⟨m,hn.sameBut hs (Cy (cne x c hc)),λj y v' e1 e2 e3=>?_⟩,λy c' e=>?_,I.free,I.freeC,λp hp=>?_,tracked ⟨oc,hoc,I.freeC x c hc⟩ hs,by simpa using I.len⟩ ⟨c,hs,.inr hc⟩
  ·exact(hs.2 b (Ax (Bf (Ap e) (I.ok.cab x c hfn hc)))).trans (I.base.keep b o e n hb hx)
  ·obtain⟨sl,e1⟩:=I.base.slot b o e n hb hx;exact⟨sl,(hs.2 b (Ax (Bf (Ap e) (I.ok.cab x c hfn hc)))).trans e1⟩
  ·obtain⟨o',e1⟩:=I.base.there b o e hx;exact⟨o',(hs.2 b (Ax (Bf (Ap e) (I.ok.cab x c hfn hc)))).trans e1⟩
  ·by_cases hj:j=i
   ·subst hj;rw [hi]at e1;cases e1;rw [Oc hiσ]at e2;cases e2;exact⟨u,r,.inr ⟨.inl hk,c,hc,hc'⟩⟩
   ·rw [Pa (Cy hj)]at e2;obtain⟨u',r',q⟩:=hl j y v' e1 e2 e3;refine⟨u',r',?_⟩;rcases q with q|⟨k,c',e,z'⟩
    ·exact .inl q
    ·refine .inr ⟨k,c',e,z'.sameBut hs ?_⟩;rintro rfl;exact hj (aF2 hN e1 (I.ok.inj _ _ _ e hc▸hi))
  ·by_cases hcc:c'=c
   ·subst hcc;exact⟨_,hc'⟩
   ·obtain⟨w2,z2⟩:=I.cell y c' e;exact⟨w2,z2.sameBut hs hcc⟩
  ·obtain⟨e,n,ne,nf,d⟩:=I.pin p hp;refine⟨(hs.2 p.1 ?_).trans e,n,ne,nf,d⟩;intro q;rw [q,hoc]at e;have q':oc=p.2:=Bl e;exact d w' (by rw [<-q'];exact hocd)
def aFi {M:Model} {x:Str} {v:V} {Q:Unit->Shared->Prop} (I:Inv X pins σ H s) (hN:X.N.Nodup) (hi:X.N[i]? =some x) (hx:Loc X.env.scope x) (r:RelV v u)
  (h:∀s',Inv X pins (σ.set i (some v)) H s'->Q () s') (hf:X.fn x=true∨X.env.scope.names.lookup x=some .local:=by first|exact .inl rfl|exact .inr rfl|assumption):wpAny M A (storeName X.env x u) Q E s:=
 aBx I hN hi hx r (λs' I' _=>h s' I') hf
def Inv.call' {s':Shared} (I:Inv X pins σ H s) (ho:s'.os=s.os) (u:Un (frs X.stack) ch H H' s.heap s'.heap) (hok:HOk X.prog X.w H' s'.heap) (hg:AllBare s'.gens)
  (hch:∀b∈ch,(b∈X.ex∨X.s₀.heap.objs.size<=b)/\b≠X.env.locals/\(∀x c,X.env.cells.lookup x=some c->c≠b)/\∀p∈X.pn++pins,p.1≠b):Inv X pins σ H' s':=by
 obtain⟨h',g',d',t',o'⟩:=s';have e:o'=s.os:=ho;subst e;exact I.call (g':=g') (t':=t') (d':=d') u hok hg hch
abbrev XK:=Value->Option Addr->Hp->Prop
abbrev St:=List (Option V)
abbrev VK:=V->Hp->Prop
abbrev TE:=St->Hp->VK->Prop
abbrev TT:=St->Hp->(Bool->Hp->Prop)->Prop
abbrev TA:=St->Hp->(List V->Hp->Prop)->Prop
structure Ends where
 nx:St->Hp->Prop
 rt:VK
 bk:St->Hp->Prop:=λ_ _=>False
 ct:St->Hp->Prop:=λ_ _=>False
abbrev TS:=Ends->St->Hp->Prop
inductive IEP (X:Cx) (pins:List (Addr×Obj)) (σ:St) (Q:VK) (u:Value) (s':Shared):Prop
 |mk (v H':_) (q0_:Inv X pins σ H' s') (q1_:RelV v u) (q2_:Q v H'):IEP X pins σ Q u s'
def EP (X:Cx) (pins:List (Addr×Obj)) (σ:St) (Q:VK) (u:Value) (s':Shared):Prop:=IEP X pins σ Q u s'
def TP (X:Cx) (pins:List (Addr×Obj)) (σ:St) (Q:Bool->Hp->Prop) (b:Bool) (s':Shared):Prop:=∃H',Inv X pins σ H' s'/\Q b H'
inductive IAP (X:Cx) (pins:List (Addr×Obj)) (σ:St) (Q:List V->Hp->Prop) (us:List Value) (s':Shared):Prop
 |mk (vs H':_) (q0_:Inv X pins σ H' s') (q1_:Vals vs us) (q2_:Q vs H'):IAP X pins σ Q us s'
def AP (X:Cx) (pins:List (Addr×Obj)) (σ:St) (Q:List V->Hp->Prop) (us:List Value) (s':Shared):Prop:=IAP X pins σ Q us s'
def SP (X:Cx) (pins:List (Addr×Obj)) (D:Ends) (f:Flow) (s':Shared):Prop:=
 match f with
 | .next=>∃σ' H',Inv X pins σ' H' s'/\D.nx σ' H'
 | .brk=>∃σ' H',Inv X pins σ' H' s'/\D.bk σ' H'
 | .cont=>∃σ' H',Inv X pins σ' H' s'/\D.ct σ' H'
 | .ret u=>∃v σ' H',Inv X pins σ' H' s'/\RelV v u/\D.rt v H'
def PE (X:Cx) (e:Expr) (t:TE):Prop:=
 ∀(pins:List (Addr×Obj)) (s:Shared) (σ:St) (H:Hp) (Q:VK),Inv X pins σ H s->t σ H Q->wpAny (model X.prog X.w) X.A (eval e X.env) (EP X pins σ Q) X.xe s
def PT (X:Cx) (e:Expr) (t:TT):Prop:=
 ∀(pins:List (Addr×Obj)) (s:Shared) (σ:St) (H:Hp) (Q:Bool->Hp->Prop),Inv X pins σ H s->t σ H Q->wpAny (model X.prog X.w) X.A (isTrue e X.env (eval e X.env)) (TP X pins σ Q) X.xe s
def PW (X:Cx) (e:Expr) (t:TT):Prop:=
 ∀(whole:Sem Value) (pins:List (Addr×Obj)) (s:Shared) (σ:St) (H:Hp) (Q:Bool->Hp->Prop),Inv X pins σ H s->t σ H Q->wpAny (model X.prog X.w) X.A (isTrue e X.env whole) (TP X pins σ Q) X.xe s
def PW.pt {X:Cx} {e:Expr} {t:TT} (h:PW X e t):PT X e t:=h _
def PA (X:Cx) (es:List Expr) (t:TA):Prop:=
 ∀(pos:Pos) (pins:List (Addr×Obj)) (s:Shared) (σ:St) (H:Hp) (Q:List V->Hp->Prop),Inv X pins σ H s->t σ H Q->wpAny (model X.prog X.w) X.A (spliced (backTo pos (starEach es X.env))) (AP X pins σ Q) X.xe s
def PS (X:Cx) (st:Stmt) (t:TS):Prop:=
 ∀(pins:List (Addr×Obj)) (s:Shared) (σ:St) (H:Hp) (D:Ends),Inv X pins σ H s->t D σ H->wpAny (model X.prog X.w) X.A (exec st X.env) (SP X pins D) X.xe s
def PSs (X:Cx) (st:List Stmt) (t:TS):Prop:=
 ∀(pins:List (Addr×Obj)) (s:Shared) (σ:St) (H:Hp) (D:Ends),Inv X pins σ H s->t D σ H->wpAny (model X.prog X.w) X.A (execs st X.env) (SP X pins D) X.xe s
def thn {α:Type} {t:Sem α} {Q Q':α->Shared->Prop} {M:Model} {s:Shared} (h:wpAny M A t Q E s) (hQ:∀a s,Q a s->Q' a s):wpAny M A t Q' E s:=Cq h hQ λ_ _ x=>x
section
variable {X:Cx}
inductive aTl (i:Nat) (σ:St) (H:Hp) (Q:VK):Prop
 |mk (v:_) (q0_:σ[i]? =some (some v)) (q1_:Q v H):aTl i σ H Q
def aWe (i:Nat):TE:=λσ H Q=>aTl i σ H Q
def tC (v:V):TE:=λ_ H Q=>Q v H
def lD {x:Str} (hN:X.N[i]? =some x) (hv:Vis X.env.scope x) (hd:(x==("__debug__":Str))=false:=by decide) (hcd:(x==("__classdict__":Str))=false:=by decide):PE X (.Name x pos) (aWe i):=by
 intro pins s σ H Q I h;obtain⟨v,e,h⟩:=h;obtain⟨m,hn,hl⟩:=I.loc;obtain⟨u,r,l⟩:=hl i x v hN e hv;have fin:EP X pins σ Q u s:=⟨v,H,I,r,h⟩;rcases l with ⟨hk,hm⟩|⟨hk,c,hc,hcell⟩
 ·exact Ss (wpAny_loadName_local I.ok.kind hk hn hm fin) hd
 ·rcases hk with hk|hk
  ·exact Ss (wpAny_loadName_cell I.ok.kind hk hc hcell fin) hd
  ·exact Ss (wpAny_loadName_free I.ok.kind hk hc hcell fin hcd) hd
def dX {i j pos}:PE X (.Constant (.int i) j pos) (tC (.int i)):=λ_ _ _ H _ I h=>wpAny_Constant_int ⟨.int i,H,I.tok _,⟨_,rfl⟩,h⟩
def aYl {b j pos}:PE X (.Constant (.bool b) j pos) (tC (.bl b)):=λ_ _ _ H _ I h=>Constant_bool ⟨.bl b,H,I,rfl,h⟩
def aWn {j pos}:PE X (.Constant .none j pos) (tC .non):=λ_ _ _ H _ I h=>Pz ⟨.non,H,I,rfl,h⟩
def bY {x j pos}:PE X (.Constant (.str x) j pos) (tC (.str x)):=λ_ _ _ H _ I h=>Calls.Constant_str ⟨.str x,H,I.tok _,⟨_,rfl⟩,h⟩
def Gl (X:Cx) (x:Str):Prop:=X.env.kindOf x=some .globalImplicit
def aD5 {pins:List (Addr×Obj)} {s:Shared} {σ:St} {H:Hp} {x:Str} (I:Inv X pins σ H s) (hg:Gl X x) (hm:X.mg x=some u) (h:Q u s)
  (hd:(x==("__debug__":Str))=false:=by decide):wpAny (model X.prog X.w) X.A (eval (.Name x pos) X.env) Q E s:=
 Lw I.ok.kind hg (Calls.loadGlobal_global (by rw [I.ok.glob];exact I.mod.glob.keeps I.bk) hm h) hd
def uK {pins:List (Addr×Obj)} {s:Shared} {σ:St} {H:Hp} {x:Str} (I:Inv X pins σ H s) (hg:Gl X x) (hm:X.mg x=none) (hv:bootBuiltins x=some u) (h:Q u s)
  (hn:x≠"__name__":=by decide) (hd:(x==("__debug__":Str))=false:=by decide):wpAny (model X.prog X.w) X.A (eval (.Name x pos) X.env) Q E s:=by
 obtain⟨mb,h1,h2⟩:=I.mod.blt;exact Lw I.ok.kind hg (Calls.loadGlobal_builtin (by rw [I.ok.glob];exact I.mod.glob.keeps I.bk) hm (by rw [I.ok.blt];exact h1.keeps I.bk) ((h2 x hn).trans hv) h) hd
def zE {x:Str} {v:V} (hg:Gl X x) (hm:X.mg x=some u) (r:RelV v u) (hd:(x==("__debug__":Str))=false:=by decide):PE X (.Name x pos) (tC v):=
 λ_ _ _ H _ I h=>aD5 I hg hm ⟨v,H,I,r,h⟩ hd
def aJ2 {x:Str} {v:V} (hg:Gl X x) (hm:X.mg x=none) (hv:bootBuiltins x=some u) (r:RelV v u) (hn:x≠"__name__":=by decide) (hd:(x==("__debug__":Str))=false:=by decide):PE X (.Name x pos) (tC v):=
 λ_ _ _ H _ I h=>uK I hg hm hv ⟨v,H,I,r,h⟩ hn hd
variable {a b:Expr} {ta tb:TE} {pos:Pos}
def PC (X:Cx) (op:CmpOp) (a b:Expr) (t:TE):Prop:=
 ∀(pins:List (Addr×Obj)) (s:Shared) (σ:St) (H:Hp) (Q:VK),Inv X pins σ H s->t σ H Q->
  wpAny (model X.prog X.w) X.A (eval a X.env) (λv s₁=>wpAny (model X.prog X.w) X.A (eval b X.env) (λu s₂=>wpAny (model X.prog X.w) X.A (compareOp op v u) (EP X pins σ Q) X.xe s₂) X.xe s₁) X.xe s
def aOz (b:Expr) {op:CmpOp} (h:op≠ .In) (h2:op≠ .NotIn):behindInMarks op b=false:=by
 have e1:(op==CmpOp.In)=false:=by cases op<;>first|rfl|exact absurd rfl h
 have e2:(op==Tz)=false:=by cases op<;>first|rfl|exact absurd rfl h2
 cases b<;>simp [behindInMarks,e1,e2]
def aYc (ta:TE):TE:=λσ H Q=>ta σ H λx H1=>Q (.bl (decide (x= .non))) H1
def aTg (ta:TE):TE:=λσ H Q=>ta σ H λx H1=>Q (.bl (!decide (x= .non))) H1
def RelV.none_iff {x:V} {v:Value} (r:RelV x v):(v==Ce)=decide (x= .non):=by
 cases x with
 |non=>cases r;rfl
 |bl _=>cases r;rfl
 |int _=>obtain⟨t,rfl⟩:=r;rfl
 |str _=>obtain⟨t,rfl⟩:=r;rfl
 |byt _=>obtain⟨t,rfl⟩:=r;rfl
 |flt _=>obtain⟨t,rfl⟩:=r;rfl
 |ref _=>cases r;rfl
 |ty _=>cases r;rfl
def aV6 {j pos'} (ha:PE X a ta):PC X .Is a (.Constant .none j pos') (aYc ta):=by
 intro pins s σ H Q I h;refine thn (ha pins s σ H _ I h) λv s1 ⟨x,H1,I1,r1,q1⟩=>?_;exact Pz (is_none_gen ⟨.bl _,H1,I1,by rw [r1.none_iff];rfl,q1⟩)
def aQy {j pos'} (ha:PE X a ta):PC X .IsNot a (.Constant .none j pos') (aTg ta):=by
 intro pins s σ H Q I h;refine thn (ha pins s σ H _ I h) λv s1 ⟨x,H1,I1,r1,q1⟩=>?_;exact Pz (isnot_none_gen ⟨.bl _,H1,I1,by rw [r1.none_iff];rfl,q1⟩)
inductive aW8 (x:V) (H:Hp) (Q:Bool->Hp->Prop):Prop
 |mk (c:_) (q0_:x= .bl c) (q1_:Q c H):aW8 x H Q
def rBl (x:V) (H:Hp) (Q:Bool->Hp->Prop):Prop:=aW8 x H Q
def tB (t:TE):TT:=λσ H Q=>t σ H λx H1=>rBl x H1 Q
def aNk {op:CmpOp} {t:TE} (h:PC X op a b t) (h1:behindInMarks op b=false:=by first|exact aOz _ (by decide) (by decide)|rfl):PT X (.Compare a [op] [b] pos) (tB t):=by
 intro pins s σ H Q I hw;refine Qk (thn (h pins s σ H _ I hw) λv s1 h1=>thn h1 λu s2 h2=>thn h2 λc s3 ⟨x,H1,I1,r1,q1⟩=>?_) h1;obtain⟨d,rfl,q⟩:=q1;cases r1;exact Ck ⟨H1,I1,q⟩
def aA5 {e:Expr} {t:TE} (h:PE X e t) (he:∀whole,isTrue e X.env whole=(do let v<-whole;standAt e.pos;holding [v] (truthy v)):=by intro _;rfl):PT X e (tB t):=by
 intro pins s σ H Q I hw;refine isTrue_plain (thn (h pins s σ H _ I hw) λv s1 ⟨x,H1,I1,r1,q1⟩=>?_) (he _);obtain⟨d,rfl,q⟩:=q1;cases r1;exact Ck ⟨H1,I1,q⟩
variable {tA tB':TT} {rest:List Expr}
def aZ1 (t u:TT):TT:=λσ H Q=>t σ H λc H1=>if c=true then u σ H1 Q else Q false H1
def tOr (t u:TT):TT:=λσ H Q=>t σ H λc H1=>if c=true then Q true H1 else u σ H1 Q
def bAc (t:TT):TT:=λσ H Q=>t σ H λc H1=>Q (!c) H1
def aDh (ha:PT X a tA):PW X (.BoolOp .And [a] pos) tA:=by
 intro wh pins s σ H Q I h;refine isTrue_and (thn (ha pins s σ H Q I h) λc s1 e=>?_);cases c with
 |true=>exact isTrue_and_nil e
 |false=>exact e
def aO0 (ha:PT X a tA):PW X (.BoolOp .Or [a] pos) tA:=by
 intro wh pins s σ H Q I h;refine isTrue_or (thn (ha pins s σ H Q I h) λc s1 e=>?_);cases c with
 |false=>exact isTrue_or_nil e
 |true=>exact e
def aHd (ha:PT X a tA) (hb:PW X (.BoolOp .And (b::rest) pos) tB'):PW X (.BoolOp .And (a::b::rest) pos) (aZ1 tA tB'):=by
 intro wh pins s σ H Q I h;refine isTrue_and (thn (ha pins s σ H _ I h) λc s1 ⟨H1,I1,q1⟩=>?_);cases c with
 |true=>exact hb wh pins s1 σ H1 Q I1 q1
 |false=>exact⟨H1,I1,q1⟩
def aS5 (ha:PT X a tA) (hb:PW X (.BoolOp .Or (b::rest) pos) tB'):PW X (.BoolOp .Or (a::b::rest) pos) (tOr tA tB'):=by
 intro wh pins s σ H Q I h;refine isTrue_or (thn (ha pins s σ H _ I h) λc s1 ⟨H1,I1,q1⟩=>?_);cases c with
 |true=>exact⟨H1,I1,q1⟩
 |false=>exact hb wh pins s1 σ H1 Q I1 q1
def aC9 (ha:PT X a tA):PT X (.UnaryOp .Not a pos) (bAc tA):=by
 intro pins s σ H Q I h;exact isTrue_not (ha pins s σ H (λc H1=>Q (!c) H1) I h)
def aY8 (ta tb:TE):TE:=λσ H Q=>ta σ H λx H1=>∃c,x= .bl c/\if c=true then tb σ H1 Q else Q (.bl false) H1
def aY5 (ta:TE):TE:=λσ H Q=>ta σ H λx H1=>∃c,x= .bl c/\Q (.bl (!c)) H1
def aOh {op} {t:TE} (h:PE X a t):PE X (.BoolOp op [a] pos) t:=λpins s σ H Q I hw=>BoolOp_one (h pins s σ H Q I hw)
def aPb (ha:PE X a ta) (hb:PE X (.BoolOp .And (b::rest) pos) tb):PE X (.BoolOp .And (a::b::rest) pos) (aY8 ta tb):=by
 intro pins s σ H Q I h;refine BoolOp_and (thn (ha pins s σ H _ I h) λv s1 ⟨x,H1,I1,r1,q1⟩=>?_);obtain⟨c,rfl,q1⟩:=q1;cases r1;refine Ck ?_;cases c with
 |true=>exact hb pins s1 σ H1 Q I1 q1
 |false=>exact⟨.bl false,H1,I1,rfl,q1⟩
def aWi (ha:PE X a ta):PE X (.UnaryOp .Not a pos) (aY5 ta):=by
 intro pins s σ H Q I h;refine UnaryOp_ (thn (ha pins s σ H _ I h) λv s1 ⟨x,H1,I1,r1,q1⟩=>?_);obtain⟨c,rfl,q1⟩:=q1;cases r1;exact not_of (Ck ⟨.bl (!c),H1,I1,rfl,q1⟩)
end
def SqL (K:Ac) (H:Hp) (a:Addr) (xs:List V):Prop:=
 Rd H a (.lst xs)∨
  ∃(o:Obj) (its:Array Value) (n:Nat),K.lookup a=some o/\o.cls= .type "list"/\o.dict=none/\o.data= .seq its n/\its.size<=sizeLine/\Vals xs its.toList
def SqT (K:Ac) (H:Hp) (a:Addr) (xs:List V):Prop:=
 Rd H a (.tup xs)∨
  ∃(o:Obj) (its:Array Value) (n:Nat),K.lookup a=some o/\o.cls= .type "tuple"/\o.data= .seq its n/\its.size<=sizeLine/\Vals xs its.toList
def aZ3:Value->Option V
 | .none=>some .non
 | .bool b=>some (.bl b)
 | .int i _=>some (.int i)
 | .str x _=>some (.str x)
 | .bytes b _=>some (.byt b)
 | .float b _=>some (.flt b)
 | .ref a=>some (.ref a)
 | .type n=>some (.ty n)
 |_=>none
def RelV.abs {x:V} (r:RelV x u):aZ3 u=some x:=by
 cases x with
 |non=>cases r;rfl
 |bl _=>cases r;rfl
 |int _=>obtain⟨t,rfl⟩:=r;rfl
 |str _=>obtain⟨t,rfl⟩:=r;rfl
 |byt _=>obtain⟨t,rfl⟩:=r;rfl
 |flt _=>obtain⟨t,rfl⟩:=r;rfl
 |ref _=>cases r;rfl
 |ty _=>cases r;rfl
def RelV.inj {x y:V} (r:RelV x u) (q:RelV y u):x=y:=Bl (r.abs.symm.trans q.abs)
def Vals.inj:∀{xs ys:List V} {us:List Value},Vals xs us->Vals ys us->xs=ys
 |_,_,_,.nil,.nil=>rfl
 |_,_,_,.cons r t,.cons r' t'=>by rw [r.inj r',Vals.inj t t']
section
variable {X:Cx} {pins:List (Addr×Obj)} {σ:St} {H:Hp} {s:Shared} {a:Addr} {xs ys:List V}
def SqL.of {K:Ac} (h:H a=some (.lst xs)):SqL K H a xs:= .inl (.inl h)
def SqT.of {K:Ac} (h:H a=some (.tup xs)):SqT K H a xs:= .inl (.inl h)
def Inv.list (I:Inv X pins σ H s) (h:SqL X.K H a xs):∃its:List Value,Vals xs its/\PlainL s.heap a its.toArray/\xs.length<=sizeLine:=by
 rcases h with h|⟨o,its,n,hk,hc,hd,hs,hz,r⟩
 ·obtain⟨z,its,n,r,e⟩:=h.ok I.hok;exact⟨its,r,⟨_,n,e,rfl,rfl,rfl⟩,z⟩
 ·refine⟨its.toList,r,⟨o,n,I.kIn a o hk,hc,hd,by simpa using hs⟩,?_⟩;have e:=r.length;simp only [As]at e;omega
def Inv.tuple (I:Inv X pins σ H s) (h:SqT X.K H a xs):∃its:List Value,Vals xs its/\IsTup s.heap a its.toArray/\xs.length<=sizeLine:=by
 rcases h with h|⟨o,its,n,hk,hc,hs,hz,r⟩
 ·obtain⟨z,its,r,p⟩:=h.ok I.hok;exact⟨its,r,p,z⟩
 ·refine⟨its.toList,r,⟨o,I.kIn a o hk,hc,n,by simpa using hs⟩,?_⟩;have e:=r.length;simp only [As]at e;omega
def Inv.list_inj (I:Inv X pins σ H s) (h:SqL X.K H a xs) (h':SqL X.K H a ys):xs=ys:=by
 obtain⟨its,r,⟨o,n,e,_,_,d⟩,_⟩:=I.list h;obtain⟨its',r',⟨o',n',e',_,_,d'⟩,_⟩:=I.list h';rw [e]at e';cases e';rw [d]at d';injection d' with d1 _
 have:its=its':=by simpa using congrArg So d1
 subst this;exact r.inj r'
def Inv.tuple_inj (I:Inv X pins σ H s) (h:SqT X.K H a xs) (h':SqT X.K H a ys):xs=ys:=by
 obtain⟨its,r,⟨o,e,_,n,d⟩,_⟩:=I.tuple h;obtain⟨its',r',⟨o',e',_,n',d'⟩,_⟩:=I.tuple h';rw [e]at e';cases e';rw [d]at d';injection d' with d1 _
 have:its=its':=by simpa using congrArg So d1
 subst this;exact r.inj r'
end
abbrev Cx.wish (X:Cx) (E:Value->Shared->Prop):Cx:={X with xe:=E}
abbrev Cx.nox (X:Cx):Cx:=X.wish λ_ _=>False
def Cx.Ok.wish {X:Cx} (ok:X.Ok) (E:Value->Shared->Prop):(X.wish E).Ok:=
 ⟨ok.mod,ok.kind,ok.glob,ok.blt,ok.above,ok.inj,ok.has,ok.cab,ok.hd,ok.frames,ok.stk,ok.exf,ok.bs,ok.bsz,ok.noex,ok.exfs,ok.funs,ok.frf⟩
def Cx.Ok.unwish {X:Cx} (ok:(X.wish E).Ok):X.Ok:=
 ⟨ok.mod,ok.kind,ok.glob,ok.blt,ok.above,ok.inj,ok.has,ok.cab,ok.hd,ok.frames,ok.stk,ok.exf,ok.bs,ok.bsz,ok.noex,ok.exfs,ok.funs,ok.frf⟩
section
variable {X:Cx} {pins:List (Addr×Obj)} {σ:St} {H:Hp} {s:Shared} {E:Value->Shared->Prop}
def Inv.wish (I:Inv X pins σ H s) (E:Value->Shared->Prop):Inv (X.wish E) pins σ H s:=⟨I.ok.wish E,I.os,I.bare,I.base,I.loc,I.cell,I.free,I.freeC,I.pin,I.hok,I.len⟩
def Inv.unwish (I:Inv (X.wish E) pins σ H s):Inv X pins σ H s:=⟨I.ok.unwish,I.os,I.bare,I.base,I.loc,I.cell,I.free,I.freeC,I.pin,I.hok,I.len⟩
def SP.unwish {D:Ends} {f:Flow} {s':Shared} (h:SP (X.wish E) pins D f s'):SP X pins D f s':=by
 cases f with
 |next=>obtain⟨σ',H',I,q⟩:=h;exact⟨σ',H',I.unwish,q⟩
 |brk=>obtain⟨σ',H',I,q⟩:=h;exact⟨σ',H',I.unwish,q⟩
 |cont=>obtain⟨σ',H',I,q⟩:=h;exact⟨σ',H',I.unwish,q⟩
 |ret u=>obtain⟨v,σ',H',I,r,q⟩:=h;exact⟨v,σ',H',I.unwish,r,q⟩
def PSs.nox {st:List Stmt} {t:TS} (h:PSs X.nox st t):PSs X st t:=λpins s σ H D I hw=>
 Cq (h pins s σ H D (I.wish _) hw) (λ_ _ q=>q.unwish) λ_ _ z=>Et z
end
section
variable {X:Cx} {st:Stmt} {rest:List Stmt} {t u:TS} {e:Expr} {te:TE} {pos:Pos}
def aYn:TS:=λD σ H=>D.nx σ H
def aZu (t u:TS):TS:=λD σ H=>t {D with nx:=u D} σ H
def bZ:PSs X [] aYn:=λ_ _ σ H _ I h=>Jx ⟨σ,H,I,h⟩
def aK (h1:PS X st t) (h2:PSs X rest u):PSs X (st::rest) (aZu t u):=by
 intro pins s σ H D I h;refine Uc (thn (h1 pins s σ H {D with nx:=u D} I h) λf s1 q=>?_);cases f with
 |next=>
  obtain⟨σ',H',I',q⟩:=q;exact h2 pins s1 σ' H' D I' q
 |ret v=>exact q
 |brk=>exact q
 |cont=>exact q
def aR (h1:PS X st t):PSs X [st] t:=by
 intro pins s σ H D I h;refine Uc (thn (h1 pins s σ H D I h) λf s1 q=>?_);cases f with
 |next=>exact Jx q
 |ret v=>exact q
 |brk=>exact q
 |cont=>exact q
def Inv.quiet {pins:List (Addr×Obj)} {σ:St} {H:Hp} {s:Shared} (I:Inv X pins σ H s):interactive X.env=false:=by simp [interactive,I.ok.kind]
def aXy (te:TE):TS:=λD σ H=>te σ H λ_ H1=>D.nx σ H1
def cV (he:PE X e te) (hs:swapsWith e none pos.line X.env=pure false:=by rfl):PS X (.Expr e pos) (aXy te):=by
 intro pins s σ H D I h;exact wpAny_Expr_any (thn (he pins s σ H _ I h) λv s1 ⟨x,H1,I1,r1,q1⟩=>⟨σ,H1,I1,q1⟩) I.quiet hs
def aZe (te:TE):TS:=λD σ H=>te σ H D.rt
def cQ (he:PE X e te):PS X (.Return (some e) pos) (aZe te):=by
 intro pins s σ H D I h;exact wpAny_Return_some (thn (he pins s σ H _ I h) λv s1 ⟨x,H1,I1,r1,q1⟩=>⟨x,σ,H1,I1,r1,q1⟩)
def aZp (c:TT) (t u:TS):TS:=λD σ H=>c σ H λb H1=>if b=true then t D σ H1 else u D σ H1
def fD {c:Expr} {a b:List Stmt} {tc:TT} (hc:PT X c tc) (ha:PSs X a t) (hb:PSs X b u):PS X (.If c a b pos) (aZp tc t u):=by
 intro pins s σ H D I h;refine wpAny_If (thn (hc pins s σ H _ I h) λd s1 ⟨H1,I1,q1⟩=>?_);cases d with
 |true=>exact ha pins s1 σ H1 D I1 q1
 |false=>exact hb pins s1 σ H1 D I1 q1
def aV3:TS:=λ_ _ _=>False
def dY:PS X st aV3:=λ_ _ _ _ _ _ h=>h.elim
end
abbrev TG:=V->St->Hp->(St->Hp->Prop)->Prop
abbrev TGs:=List V->St->Hp->(St->Hp->Prop)->Prop
def PG (X:Cx) (target:Expr) (t:TG):Prop:=
 ∀(pins:List (Addr×Obj)) (s:Shared) (σ:St) (H:Hp) (v:V) (u:Value) (Q:St->Hp->Prop),Inv X pins σ H s->RelV v u->t v σ H Q->
  wpAny (model X.prog X.w) X.A (assign target X.env u) (λ_ s'=>∃σ' H',Inv X pins σ' H' s'/\Q σ' H') X.xe s
def PGs (X:Cx) (ts:List Expr) (t:TGs):Prop:=
 ∀(pins:List (Addr×Obj)) (s:Shared) (σ:St) (H:Hp) (vs:List V) (us:List Value) (Q:St->Hp->Prop),Inv X pins σ H s->Vals vs us->t vs σ H Q->
  wpAny (model X.prog X.w) X.A (assignInOrder ((assignEach ts X.env).map (·.2)) us) (λ_ s'=>∃σ' H',Inv X pins σ' H' s'/\Q σ' H') X.xe s
abbrev aUb:=V->V->V->Hp->(Hp->Prop)->Prop
def aXo (X:Cx) (t:aUb):Prop:=
 ∀(pins:List (Addr×Obj)) (s:Shared) (σ:St) (H:Hp) (o i v:V) (ov iv u:Value) (Q:Hp->Prop),Inv X pins σ H s->RelV o ov->RelV i iv->RelV v u->t o i v H Q->
  wpAny (model X.prog X.w) X.A (setItem ov iv u) (λ_ s'=>∃H',Inv X pins σ H' s'/\Q H') X.xe s
variable {pos:Pos}
def vQ (i:Nat):TG:=λv σ H Q=>Q (σ.set i (some v)) H
def bL {x:Str} (hN:X.N.Nodup) (hi:X.N[i]? =some x) (hx:Loc X.env.scope x) (hf:X.fn x=true∨X.env.scope.names.lookup x=some .local:=by first|exact .inl rfl|exact .inr rfl|assumption):PG X (.Name x pos) (vQ i):=by
 intro pins s σ H v u Q I r h;exact Sr (aFi I hN hi hx r (λs' I'=>⟨_,H,I',h⟩) hf)
def aW5:TGs:=λvs σ H Q=>vs=[]/\Q σ H
def aT4 (t:TG) (u:TGs):TGs:=λvs σ H Q=>∃v r,vs=v::r/\t v σ H λσ' H'=>u r σ' H' Q
def yM:PGs X [] aW5:=by
 intro pins s σ H vs us Q I r h;obtain⟨e,h⟩:=h;subst e;cases r;exact assignInOrder_nil ⟨σ,H,I,h⟩
def mC {e:Expr} {t:TG} {u:TGs} (h1:PG X e t) (h2:PGs X es u)
  (hs:(assignEach (e::es) X.env).map (·.2)=assign e X.env::(assignEach es X.env).map (·.2):=by rfl):PGs X (e::es) (aT4 t u):=by
 intro pins s σ H vs us Q I r h;obtain⟨v,vr,e1,h⟩:=h;subst e1;cases r with
 |cons r rr=>
  rw [hs];refine assignInOrder_cons (thn (h1 pins s σ H _ _ _ I r h) λ_ s1 ⟨σ1,H1,I1,q1⟩=>?_);exact h2 pins s1 σ1 H1 _ _ Q I1 rr q1
inductive aSq (K:Ac) (n:Nat) (t:TGs) (v:V) (σ:St) (H:Hp) (Q:(St->Hp->Prop)):Prop
 |mk (a xs:_) (q0_:v= .ref a) (q1_:SqT K H a xs) (q2_:xs.length=n) (q3_:t xs σ H Q):aSq K n t v σ H Q
def aXv (K:Ac) (n:Nat) (t:TGs):TG:=λv σ H Q=>aSq K n t v σ H Q
def aDu {t:TGs} {n:Nat} (hc:X.calm=true) (h:PGs X es t)
  (hn:(assignEach es X.env).length=n:=by rfl) (hst:(assignEach es X.env).findIdx? (·.1)=none:=by rfl):PG X (.Tuple es k pos) (aXv X.K n t):=by
 intro pins s σ H v u Q I r hw;obtain⟨a,xs,e1,hq,hl,hw⟩:=hw;subst e1;cases r;obtain⟨its,rv,ht,hz⟩:=I.tuple hq;refine assign_Tuple_tuple (I.ok.hd hc) ht (by simp [hn, <-hl,rv.length]) hst λh' hx=>?_;have I1:Inv X pins σ H {s with heap:=h'}:=I.kept (t':=s.toks) λb o e=>hx b o (Ax (Ap e)) e;exact h pins _ σ H xs _ Q I1 (by simpa using rv) hw
def bAb (to ti:TE) (t:aUb):TG:=λv σ H Q=>to σ H λo H1=>ti σ H1 λi H2=>t o i v H2 λH3=>Q σ H3
def aP4 {o i:Expr} {to ti:TE} {t:aUb} (ho:PE X o to) (hi:PE X i ti) (hs:aXo X t)
  (ha:∀v,assign (.Subscript o i pos) X.env v=(do
   let ov<-holding [v] (eval o X.env)
   let iv<-holding [v,ov] (eval i X.env)
   standAt pos
   holding [v,ov,iv] (setItem ov iv v)
   release [v,ov,iv] []):=by intro _;rfl):PG X (.Subscript o i pos) (bAb to ti t):=by
 intro pins s σ H v u Q I r h
 rw [ha]
 refine Aa (By (thn (ho pins s σ H _ I h) λov s1 ⟨x,H1,I1,r1,q1⟩=>?_))
 refine Aa (By (thn (hi pins s1 σ H1 _ I1 q1) λiv s2 ⟨y,H2,I2,r2,q2⟩=>?_))
 refine Aa (Jf (Aa (By (thn (hs pins s2 σ H2 x y v ov iv u _ I2 r1 r2 r q2) λ_ s3 ⟨H3,I3,q3⟩=>?_))))
 exact wpAny_release ⟨σ,H3,I3,q3⟩
def aSh (te:TE) (g:TG):TS:=λD σ H=>te σ H λx H1=>g x σ H1 D.nx
def aH1 {tg e:Expr} {te:TE} {g:TG} (he:PE X e te) (hg:PG X tg g) (hs:swapsWithSole [tg] e pos.line X.env=pure false:=by rfl) (hw:swappedStores [tg] e X.env=pure none:=by rfl)
  (h1:(assignEach [tg] X.env).map (·.2)=[assign tg X.env]:=by rfl):PS X (.Assign [tg] e pos) (aSh te g):=by
 intro pins s σ H D I h;refine wpAny_Assign_stores (thn (he pins s σ H _ I h) λv s1 ⟨x,H1,I1,r1,q1⟩=>?_) hs hw;rw [h1];exact thn (hg pins s1 σ H1 x v _ I1 r1 q1) λ_ s2 q=>q
def gW {x:Str} {e:Expr} {te:TE} {pos':Pos} (hN:X.N.Nodup) (hi:X.N[i]? =some x) (hx:Loc X.env.scope x) (he:PE X e te) (hs:swapsWith e (some (.Name x pos')) pos.line X.env=pure false:=by rfl) (hf:X.fn x=true∨X.env.scope.names.lookup x=some .local:=by first|exact .inl rfl|exact .inr rfl|assumption):
  PS X (.Assign [.Name x pos'] e pos) (aSh te (vQ i)):=by
 intro pins s σ H D I h;refine wpAny_Assign_Name (thn (he pins s σ H _ I h) λv s1 ⟨y,H1,I1,r1,q1⟩=>?_) hs;exact aFi I1 hN hi hx r1 (λs2 I2=>⟨_,H1,I2,q1⟩) hf
inductive aJ3 (c:TT) (tb:TS) (D:Ends) (σ:St) (H:Hp):Prop
 |mk (W:Nat->St->Hp->Prop) (q0_:(∃m,W m σ H)) (q1_:∀m σ H,W m σ H->c σ H λb H1=>if b=true then∃N:St->Hp->Prop,(∀σ' H',N σ' H'->∃m',m'<m/\W m' σ' H')/\tb {D with nx:=N,ct:=N,bk:=D.nx} σ H1 else D.nx σ H1):aJ3 c tb D σ H
def aV2 (c:TT) (tb:TS):TS:=λD σ H=>aJ3 c tb D σ H
def uV {c:Expr} {tc:TT} {tb:TS} (hp:PassesOwn (model X.prog X.w) X.A X.env X.xe) (hc:PT X c tc) (hb:PSs X body tb):PS X (.While c body [] pos) (aV2 tc tb):=by
 intro pins s σ H D I h;obtain⟨W,⟨m0,w0⟩,turn⟩:=h;refine wpAny_While (codeAny_whileLoop (λn s'=>∃σ' H',Inv X pins σ' H' s'/\W n σ' H') ?_ m0 ⟨σ,H,I,w0⟩);rintro n s1 ⟨σ1,H1,I1,w1⟩;refine Ft hp (thn (hc pins s1 σ1 H1 _ I1 (turn n σ1 H1 w1)) λb s2 ⟨H2,I2,q2⟩=>?_);cases b with
 |true=>
  obtain⟨N,hN,q2⟩:=q2;rw [if_pos rfl];refine Ft hp (thn (hb pins s2 σ1 H2 _ I2 q2) λf s3 q3=>?_);cases f with
  |next=>
   obtain⟨σ3,H3,I3,n3⟩:=q3;obtain⟨m',hm,w3⟩:=hN σ3 H3 n3;exact⟨m',hm,σ3,H3,I3,w3⟩
  |cont=>
   obtain⟨σ3,H3,I3,n3⟩:=q3;obtain⟨m',hm,w3⟩:=hN σ3 H3 n3;exact⟨m',hm,σ3,H3,I3,w3⟩
  |brk=>exact q3
  |ret v=>exact q3
 |false=>
  rw [if_neg Aj];exact Jx ⟨σ1,H2,I2,q2⟩
structure It where
 go:Nat->Hp->Prop
 yld:Nat->Hp->V->Hp->Prop
 stop:Nat->Hp->Prop
def aBj (X:Cx) (pins:List (Addr×Obj)) (H:Hp) (b:Addr):Prop:=
 H b=none/\b≠X.env.locals/\b∉X.fs/\(b∈X.ex∨X.s₀.heap.objs.size<=b)/\(∀x c,X.env.cells.lookup x=some c->c≠b)/\∀p∈X.pn++pins,p.1≠b
def Inv.fpOk {X:Cx} {pins:List (Addr×Obj)} {σ:St} {H H':Hp} {s:Shared} (I:Inv X pins σ H s) (hb:s.heap.objs.size<=b) (hn:H' b=none):aBj X pins H' b:=by
 refine⟨hn,Ha (Bf I.lt hb),I.nofs hb,.inr (Cp I.sz hb),λx c e z=>?_,λp hp z=>?_⟩
 ·obtain⟨v,q⟩:=I.cell x c e;exact absurd (Bf q.lt (by rw [z];exact hb)) (Eg _)
 ·exact absurd (Bf (Ap (I.pin p hp).1) (by rw [z];exact hb)) (Eg _)
structure Turn (P:Program) (w:World) (K:Ac) (tg:Expr) (J:It) (fp:List Addr) (it:Addr) (tn:Nat->Heap->Prop):Prop where
 mem:it∈fp
 obj:∀i h,tn i h->∀b∈fp,∃o,h.get? b=some o/\∀v,o.data≠ .cell v
 keep:∀i h h',tn i h->(∀b∈fp,∀o,h.get? b=some o->h'.get? b=some o)->tn i h'
 item:∀(X:Cx),X.prog=P->X.w=w->X.K=K->X.calm=true->∀(i:Nat) (pins:List (Addr×Obj)) (s:Shared) (σ:St) (H:Hp) (E:Value->Shared->Prop),Inv X pins σ H s->(∀b∈fp,aBj X pins H b)->tn i s.heap->J.go i H->
  wpAny (model P w) X.A (pyNext (.ref it)) (λr s1=>∃u,r=some u/\
   wpAny (model P w) X.A (letOwnedTupleGo tg (.ref it) u) (λ_ s2=>∃x H',Inv X pins σ H' s2/\RelV x u/\J.yld i H x H'/\tn (i+1) s2.heap/\∀b∈fp,H' b=none) E s1) E s
 done:∀(X:Cx),X.prog=P->X.w=w->X.K=K->X.calm=true->∀(i:Nat) (pins:List (Addr×Obj)) (s:Shared) (σ:St) (H:Hp) (E:Value->Shared->Prop),Inv X pins σ H s->(∀b∈fp,aBj X pins H b)->tn i s.heap->J.stop i H->
  wpAny (model P w) X.A (pyNext (.ref it)) (λr s1=>r=none/\Inv X pins σ H s1) E s
 self:∀(A:Around) (i:Nat) (s:Shared) (Q:Value->Shared->Prop) (E:Value->Shared->Prop),tn i s.heap->Q (.ref it) s->wpAny (model P w) A (pyIter (.ref it)) Q E s
abbrev TI:=St->Hp->(It->Hp->Prop)->Prop
def PIE (X:Cx) (pins:List (Addr×Obj)) (σ:St) (tg:Expr) (R:It->Hp->Prop) (itv:Value) (s2:Shared):Prop:=
 ∃(it:Addr) (fp:List Addr) (tn:Nat->Heap->Prop) (J:It) (H':Hp),itv= .ref it/\Inv X pins σ H' s2/\Turn X.prog X.w X.K tg J fp it tn/\tn 0 s2.heap/\(∀b∈fp,aBj X pins H' b)/\R J H'
def PI (X:Cx) (tg iter:Expr) (wi:TI):Prop:=
 ∀(pins:List (Addr×Obj)) (s:Shared) (σ:St) (H:Hp) (R:It->Hp->Prop),Inv X pins σ H s->wi σ H R->
  wpAny (model X.prog X.w) X.A (eval iter X.env) (λv s1=>wpAny (model X.prog X.w) X.A (pyIter v) (PIE X pins σ tg R) X.xe s1) X.xe s
def aI8 {M : Model} {s : Shared} {it : Addr} {o : Obj} {n : String} {vs : Array Value} {Q : Unit → Shared → Prop} (ho : s.heap.get? it = some o) (hc : o.cls = .type n) (hd : o.data = .fields vs)
    (hn : ["enumerate", "zip", "dict_itemiterator", "dict_reverseitemiterator", "odict_iterator", "itertools.zip_longest", "itertools.pairwise"].contains n = false) (hQ : Q () s) : wpAny M A (letOwnedTupleGo tg (.ref it) u) Q E s := by
  unfold letOwnedTupleGo
  cases tg <;> first
    | exact Af hQ
    | (cases u <;> first
        | exact Af hQ
        | (refine Aa (Pc ho ?_)
           rw [hc, hd]
           show wpAny M A (if (["enumerate", "zip", "dict_itemiterator", "dict_reverseitemiterator", "odict_iterator", "itertools.zip_longest", "itertools.pairwise"].contains n && vs[0]? == some (rawInt _)) = true then _ else _) Q E s
           rw [if_neg (by intro h; rw [hn, Hy] at h; cases h)]
           exact Af hQ))
def Itl (K:Ac) (a:Addr):It:=
 ⟨λi H=>∃xs x,SqL K H a xs/\xs[i]? =some x,λi H x H'=>H'=H/\∀xs,SqL K H a xs->xs[i]? =some x,λi H=>∃xs,SqL K H a xs/\xs.length<=i⟩
def Itt (K:Ac) (a:Addr):It:=
 ⟨λi H=>∃xs x,SqT K H a xs/\xs[i]? =some x,λi H x H'=>H'=H/\∀xs,SqT K H a xs->xs[i]? =some x,λi H=>∃xs,SqT K H a xs/\xs.length<=i⟩
def Itr (lo:Int) (n:Nat):It:=⟨λi _=>i<n,λi H x H'=>H'=H/\x= .int (lo+i),λi _=>n<=i⟩
def aLp {P:Program} {w:World} {K:Ac} (a it:Addr):Turn P w K tg (Itl K a) [it] it (λi h=>h.IsListIter it a i) where
 mem:=by simp
 obj:=λi h st b hb=>by
  have e:b=it:=by simpa using hb
  subst e;obtain⟨o,e,c,d⟩:=st;exact⟨o,e,λv z=>by rw [d]at z;cases z⟩
 keep:=λi h h' st k=>st.at λo e=>k it (by simp) o e
 item:=by
  intro X hP hw hK hc i pins s σ H E I hf st hg;subst hP hw hK;obtain⟨xs,x,hq,hx⟩:=hg;obtain⟨its,rv,p,hz⟩:=I.list hq;obtain⟨u,hu,ru⟩:=rv.get hx;obtain⟨f0,f1,f2,f3,f4,f5⟩:=hf it (by simp);refine wpAny_pyNext_list_item st p.isList (x:=u) (by simpa using hu) λh' st' sb=>?_;have I1:Inv X pins σ H {s with heap:=h'}:=I.turned (t':=s.toks) (λb o hb e=>(sb.2 b hb).trans e) f0 f1 f3 f4 f5;obtain⟨o,e,c,d⟩:=id st';exact⟨u,rfl,aI8 (s:={s with heap:=h'}) e c d (by decide) ⟨x,H,I1,ru,⟨rfl,λys hy=>by rw [I.list_inj hy hq];exact hx⟩,st',λb hb=>(hf b hb).1⟩⟩
 done:=by
  intro X hP hw hK hc i pins s σ H E I hf st hg;subst hP hw hK;obtain⟨xs,hq,hx⟩:=hg;obtain⟨its,rv,p,hz⟩:=I.list hq;obtain⟨f0,f1,f2,f3,f4,f5⟩:=hf it (by simp);have hl:=rv.length;exact wpAny_pyNext_list_end (I.ok.hd hc) st p.isList (by simp;omega) λh' eb=>⟨rfl,I.turned (t':=s.toks) (λb o hb e=>eb b o hb e) f0 f1 f3 f4 f5⟩
 self:=λ_ _ _ _ _ st h=>wpAny_pyIter_listiter st h
def aGx {P:Program} {w:World} {K:Ac} (a it:Addr):Turn P w K tg (Itt K a) [it] it (λi h=>h.IsTupleIter it a i) where
 mem:=by simp
 obj:=λi h st b hb=>by
  have e:b=it:=by simpa using hb
  subst e;obtain⟨o,e,c,d⟩:=st;exact⟨o,e,λv z=>by rw [d]at z;cases z⟩
 keep:=λi h h' st k=>st.at λo e=>k it (by simp) o e
 item:=by
  intro X hP hw hK hc i pins s σ H E I hf st hg;subst hP hw hK;obtain⟨xs,x,hq,hx⟩:=hg;obtain⟨its,rv,p,hz⟩:=I.tuple hq;obtain⟨u,hu,ru⟩:=rv.get hx;obtain⟨f0,f1,f2,f3,f4,f5⟩:=hf it (by simp);refine wpAny_pyNext_tuple_item st (show s.heap.IsTuple a its.toArray from p) (x:=u) (by simpa using hu) λh' st' sb=>?_;have I1:Inv X pins σ H {s with heap:=h'}:=I.turned (t':=s.toks) (λb o hb e=>(sb.2 b hb).trans e) f0 f1 f3 f4 f5;obtain⟨o,e,c,d⟩:=id st';exact⟨u,rfl,aI8 (s:={s with heap:=h'}) e c d (by decide) ⟨x,H,I1,ru,⟨rfl,λys hy=>by rw [I.tuple_inj hy hq];exact hx⟩,st',λb hb=>(hf b hb).1⟩⟩
 done:=by
  intro X hP hw hK hc i pins s σ H E I hf st hg;subst hP hw hK;obtain⟨xs,hq,hx⟩:=hg;obtain⟨its,rv,p,hz⟩:=I.tuple hq;obtain⟨f0,f1,f2,f3,f4,f5⟩:=hf it (by simp);have hl:=rv.length;exact wpAny_pyNext_tuple_end (I.ok.hd hc) st (show s.heap.IsTuple a its.toArray from p) (by simp;omega) λh' eb=>⟨rfl,I.turned (t':=s.toks) (λb o hb e=>eb b o hb e) f0 f1 f3 f4 f5⟩
 self:=λ_ _ _ _ _ st h=>wpAny_pyIter_tupleiter st h
def aIg {P:Program} {w:World} {K:Ac} (it:Addr) (lo:Int) (n:Nat):Turn P w K tg (Itr lo n) [it] it (λi h=>IsRangeIter h it (lo+(i:Nat)*1) ((n:Int)-(i:Nat)) 1) where
 mem:=by simp
 obj:=λi h st b hb=>by
  have e:b=it:=by simpa using hb
  subst e;exact⟨_,st,λv z=>by
   have z':Vj _=Data.cell v:=z;cases z'⟩
 keep:=λi h h' st k=>k it (by simp) _ st
 item:=by
  intro X hP hw hK hc i pins s σ H E I hf st hg;subst hP hw hK;obtain⟨f0,f1,f2,f3,f4,f5⟩:=hf it (by simp);have W:=Walks.range (prog:=X.prog) (w:=X.w) (I.ok.hd hc) it lo 1 n;refine W.item i s _ _ hg st λv h' tk hv st' kk=>?_;obtain⟨t,rfl⟩:=hv;have I1:Inv X pins σ H {s with heap:=h',toks:=tk}:=I.turned (λb o hb e=>kk b o (by simpa using hb) e) f0 f1 f3 f4 f5;refine⟨_,rfl,aI8 (s:={s with heap:=h',toks:=tk}) (n:="range_iterator") st' rfl rfl (by decide) ⟨.int (lo+i),H,I1,⟨t,?_⟩,⟨rfl,rfl⟩,st',λb hb=>(hf b hb).1⟩⟩;rw [Vx]
 done:=by
  intro X hP hw hK hc i pins s σ H E I hf st hg;subst hP hw hK;obtain⟨f0,f1,f2,f3,f4,f5⟩:=hf it (by simp);exact wpAny_pyNext_range_end (I.ok.hd hc) st (by have:n<=i:=hg;omega) λh' eb=>⟨rfl,I.turned (t':=s.toks) (λb o hb e=>eb b o hb e) f0 f1 f3 f4 f5⟩
 self:=λ_ _ _ _ _ st h=>wpAny_pyIter_rangeiter st h
variable {tg:Expr}
inductive aTz (K:Ac) (x:V) (H1:Hp) (R:It->Hp->Prop):Prop
 |mk (a:_) (q0_:x= .ref a) (q1_:(∃xs,SqL K H1 a xs)) (q2_:R (Itl K a) H1):aTz K x H1 R
def aZ5 (K:Ac) (x:V) (H1:Hp) (R:It->Hp->Prop):Prop:=aTz K x H1 R
def aYb (K:Ac) (tl:TE):TI:=λσ H R=>tl σ H λx H1=>aZ5 K x H1 R
def aZg (K:Ac) (tl:TE):TI:=λσ H R=>tl σ H λx H1=>∃a,x= .ref a/\(∃xs,SqT K H1 a xs)/\R (Itt K a) H1
def aIq {l:Expr} {tl:TE} (hl:PE X l tl):PI X tg l (aYb X.K tl):=by
 intro pins s σ H R I h;refine thn (hl pins s σ H _ I h) λv s1 ⟨x,H1,I1,r1,q1⟩=>?_;obtain⟨a,e,⟨xs,hq⟩,q⟩:=q1;subst e;cases r1;obtain⟨its,rv,p,hz⟩:=I1.list hq;refine He p.isList ?_;refine⟨s1.heap.objs.size,[s1.heap.objs.size],_,_,H1,rfl,I1.kept (t':=s1.toks) λb o e=>Ai _ e,aLp a _,⟨_,Ar _ rfl,rfl,rfl⟩,λb hb=>?_,q⟩;have e:b=s1.heap.objs.size:=by simpa using hb
 subst e;exact I1.fpOk (Am _) (I1.hok.fresh (Am _))
def aNc {l:Expr} {tl:TE} (hl:PE X l tl):PI X tg l (aZg X.K tl):=by
 intro pins s σ H R I h;refine thn (hl pins s σ H _ I h) λv s1 ⟨x,H1,I1,r1,q1⟩=>?_;obtain⟨a,e,⟨xs,hq⟩,q⟩:=q1;subst e;cases r1;obtain⟨its,rv,p,hz⟩:=I1.tuple hq;refine wpAny_pyIter_tuple (show s1.heap.IsTuple a its.toArray from p) ?_;refine⟨s1.heap.objs.size,[s1.heap.objs.size],_,_,H1,rfl,I1.kept (t':=s1.toks) λb o e=>Ai _ e,aGx a _,⟨_,Ar _ rfl,rfl,rfl⟩,λb hb=>?_,q⟩;have e:b=s1.heap.objs.size:=by simpa using hb
 subst e;exact I1.fpOk (Am _) (I1.hok.fresh (Am _))
def aGb {pins:List (Addr×Obj)} {σ:St} {H:Hp} {s:Shared} {R:It->Hp->Prop} {lo hi:Int} {t u v:Tok} {tk:Nat} (I:Inv X pins σ H s) (h1: -(2 ^ 62)<=lo) (h2:lo<2 ^ 62) (h3: -(2 ^ 62)<=hi) (h4:hi<2 ^ 62)
  (q:R (Itr lo (hi-lo).toNat) H):wpAny (model X.prog X.w) X.A (pyIter (.ref s.heap.objs.size)) (PIE X pins σ tg R) E {s with heap:=s.heap.push {cls:= .type "range",data:= .fields #[.int lo t,.int hi u,.int 1 v]},toks:=tk}:=by
 refine wpAny_pyIter_range (IsRange.new ..) (small_one h1 h2 h3 h4) ?_;have I1:Inv X pins σ H {s with heap:=s.heap.push {cls:= .type "range",data:= .fields #[.int lo t,.int hi u,.int 1 v]},toks:=tk}:=I.kept λb o e=>Ai _ e;refine⟨(s.heap.push {cls:= .type "range",data:= .fields #[.int lo t,.int hi u,.int 1 v]}).objs.size,[(s.heap.push {cls:= .type "range",data:= .fields #[.int lo t,.int hi u,.int 1 v]}).objs.size],_,_,H,rfl,
  I1.kept (t':=tk) λb o e=>Ai _ e,aIg _ lo (hi-lo).toNat,?_,λb hb=>?_,q⟩
 ·have e1:lo+((0:Nat):Int)*1=lo:=by simp
  have e2:(((hi-lo).toNat:Nat):Int)-((0:Nat):Int)=Ub lo hi 1:=by rw [rangeSize_one];split<;>omega
  show IsRangeIter _ _ (lo+((0:Nat):Int)*1) ((((hi-lo).toNat:Nat):Int)-((0:Nat):Int)) 1;rw [e1,e2];exact Ar _ rfl
 ·have e:b=(s.heap.push {cls:= .type "range",data:= .fields #[.int lo t,.int hi u,.int 1 v]}).objs.size:=by simpa using hb
  subst e;exact I1.fpOk (Am _) (I1.hok.fresh (Am _))
inductive aS1 (vs:List V) (H1:Hp) (R:It->Hp->Prop):Prop
 |mk (j:Int) (q0_:vs=[.int j]) (q1_: -(2 ^ 62)<=j) (q2_:j<2 ^ 62) (q3_:R (Itr 0 j.toNat) H1):aS1 vs H1 R
def bAd (vs:List V) (H1:Hp) (R:It->Hp->Prop):Prop:=aS1 vs H1 R
def aYx (ta:TA):TI:=λσ H R=>ta σ H λvs H1=>bAd vs H1 R
def aXm (ta:TA):TI:=λσ H R=>ta σ H λvs H1=>∃i j:Int,vs=[.int i,.int j]/\(-(2 ^ 62)<=i/\i<2 ^ 62/\ -(2 ^ 62)<=j/\j<2 ^ 62)/\R (Itr i (j-i).toNat) H1
def aLn {a:Expr} {ta:TA} {p pos:Pos} (hg:Gl X "range") (hm:X.mg "range"=none) (ha:PA X [a] ta) (hs:starEach [a] X.env=[(false,eval a X.env)]:=by rfl):PI X tg (.Call (.Name "range" p) [a] [] pos) (aYx ta):=by
 intro pins s σ H R I h;refine Call_ (uK I hg hm boot_range (Ex (thn (ha pos pins s σ H _ I h) λus s1 ⟨vs,H1,I1,r1,q1⟩=>?_) hs rfl));obtain⟨j,e,q1,q2,q⟩:=q1;subst e;cases r1 with
 |cons r rr=>
  cases rr;obtain⟨t,rfl⟩:=r;exact call_range_1 (aGb I1 (by omega) (by omega) q1 q2 (by simpa using q))
def aK3 {a b:Expr} {ta:TA} {p pos:Pos} (hg:Gl X "range") (hm:X.mg "range"=none) (ha:PA X [a,b] ta) (hs:starEach [a,b] X.env=[(false,eval a X.env),(false,eval b X.env)]:=by rfl) (hs2:starEach [b] X.env=[(false,eval b X.env)]:=by rfl):
  PI X tg (.Call (.Name "range" p) [a,b] [] pos) (aXm ta):=by
 intro pins s σ H R I h;refine Call_ (uK I hg hm boot_range (Ex (thn (ha pos pins s σ H _ I h) λus s1 ⟨vs,H1,I1,r1,q1⟩=>?_) (by rw [hs,hs2]) (by rw [hs2];rfl)));obtain⟨i,j,e,⟨q1,q2,q3,q4⟩,q⟩:=q1;subst e;cases r1 with
 |cons r rr=>
  cases rr with
  |cons r' rr=>
   cases rr;obtain⟨t,rfl⟩:=r;obtain⟨t',rfl⟩:=r';exact call_range_2 (aGb I1 q1 q2 q3 q4 q)
def aZv (wi:TI) (g:TG) (tb:TS):TS:=λD σ H=>wi σ H λJ H1=>∃W:Nat->Nat->St->Hp->Prop,(∃m,W 0 m σ H1)/\∀i m σ H,W i m σ H->
 (J.stop i H/\D.nx σ H)∨(J.go i H/\∃N:St->Hp->Prop,(∀σ' H',N σ' H'->∃m',m'<m/\W (i+1) m' σ' H')/\∀x H',J.yld i H x H'->g x σ H' λσ2 H2=>tb {D with nx:=N,ct:=N,bk:=D.nx} σ2 H2)
def aDs (fp:List Addr) (h:Heap):List (Addr×Obj):=fp.filterMap λb=>(h.get? b).map λo=>(b,o)
def fL {h:Heap} {o:Obj} (hb:b∈fp) (e:h.get? b=some o):(b,o)∈aDs fp h:=List.mem_filterMap.mpr ⟨b,hb,by rw [e];rfl⟩
def aKg {h:Heap} {p:Addr×Obj} (hp:p∈aDs fp h):p.1∈fp/\h.get? p.1=some p.2:=by
 obtain⟨b,hb,e⟩:=List.mem_filterMap.mp hp;cases q:h.get? b with
 |none=>rw [q]at e;cases e
 |some o=>
  rw [q]at e;have e':(b,o)=p:=Bl e;subst e';exact⟨hb,q⟩
def Inv.pinned {pins:List (Addr×Obj)} {σ:St} {H:Hp} {s:Shared} (I:Inv X pins σ H s) (hf:∀b∈fp,aBj X pins H b) (ho:∀b∈fp,∃o,s.heap.get? b=some o/\∀v,o.data≠ .cell v):Inv X (pins++aDs fp s.heap) σ H s:=
 I.pins_of λp hp=>(List.mem_append.mp hp).elim (λz=>I.pin p (Ba _ z)) λz=>by
  obtain⟨hb,e⟩:=aKg z;obtain⟨f0,f1,f2,_⟩:=hf p.1 hb;obtain⟨o,e',d⟩:=ho p.1 hb;rw [e]at e';cases e';exact⟨e,f0,f1,f2,d⟩
def Inv.unpinned {pins pl:List (Addr×Obj)} {σ:St} {H:Hp} {s:Shared} (I:Inv X (pins++pl) σ H s):Inv X pins σ H s:=I.pins_of λp hp=>I.pin p (Ba _ (Es _ hp))
def aPg {iter:Expr} {wi:TI} {g:TG} {tb:TS} {pos:Pos} (hp:PassesOwn (model X.prog X.w) X.A X.env X.xe) (hc:X.calm=true) (hi:PI X tg iter wi) (hg:PG X tg g) (hb:PSs X body tb)
  (hs:∀x,foldedSetIterable iter X.env x=pure x:=by intro _;rfl):PS X (.For tg iter body [] pos) (aZv wi g tb):=by
 intro pins s σ H D I h;refine wpAny_For (thn (hi pins s σ H _ I h) λv s1 h1=>thn h1 λitv s2 h2=>?_) hs;obtain⟨it,fp,tn,J,H2,e,I2,T,st2,f2,W,⟨m0,w0⟩,turn⟩:=h2;subst e;have stat:∀{H':Hp},(∀b∈fp,H' b=none)->∀b∈fp,aBj X pins H' b:=λhn b hb=>⟨hn b hb,(f2 b hb).2⟩;refine codeAny_forLoop_any (λn s'=>∃i σ' H',Inv X pins σ' H' s'/\tn i s'.heap/\(∀b∈fp,H' b=none)/\W i n σ' H') ?_ m0 ⟨0,σ,H2,I2,st2,λb hb=>(f2 b hb).1,w0⟩;rintro n s3 ⟨i,σ3,H3,I3,st3,fr3,w3⟩;rcases turn i n σ3 H3 w3 with ⟨stop,qn⟩|⟨go,N,hN,step⟩
 ·refine Ft hp (thn (T.done X rfl rfl rfl hc i pins s3 σ3 H3 X.xe I3 (stat fr3) st3 stop) λr s4 ⟨hr,I4⟩=>?_);subst hr;exact Jx ⟨σ3,H3,I4,qn⟩
 ·refine Ft hp (thn (T.item X rfl rfl rfl hc i pins s3 σ3 H3 X.xe I3 (stat fr3) st3 go) λr s4 ⟨u,hr,h4⟩=>?_);subst hr;refine Ft hp (thn h4 λ_ s5 ⟨x,H5,I5,r5,y5,st5,fr5⟩=>?_);have I5':=I5.pinned (stat fr5) (T.obj _ _ st5);refine Ft hp (thn (hg _ s5 σ3 H5 x u _ I5' r5 (step x H5 y5)) λ_ s6 ⟨σ6,H6,I6,q6⟩=>?_);refine Ft hp (thn (hb _ s6 σ6 H6 _ I6 q6) λf s7 q7=>?_);have again:∀{σ7:St} {H7:Hp},Inv X (pins++aDs fp s5.heap) σ7 H7 s7->N σ7 H7->∃m,m<n/\∃i σ' H',Inv X pins σ' H' s7/\tn i s7.heap/\(∀b∈fp,H' b=none)/\W i m σ' H':=λ{σ7 H7} I7 n7=>by
   obtain⟨m',hm,w7⟩:=hN σ7 H7 n7;refine⟨m',hm,i+1,σ7,H7,I7.unpinned,T.keep _ _ _ st5 λb hb o e=>(I7.pin (b,o) (Ba _ (Ba _ (fL hb e)))).1,λb hb=>?_,w7⟩;obtain⟨o,e,d⟩:=T.obj _ _ st5 b hb;exact(I7.pin (b,o) (Ba _ (Ba _ (fL hb e)))).2.1
  cases f with
  |next=>obtain⟨σ7,H7,I7,n7⟩:=q7;exact again I7 n7
  |cont=>obtain⟨σ7,H7,I7,n7⟩:=q7;exact again I7 n7
  |brk=>obtain⟨σ7,H7,I7,q7⟩:=q7;exact⟨σ7,H7,I7.unpinned,q7⟩
  |ret v=>obtain⟨x7,σ7,H7,I7,r7,q7⟩:=q7;exact⟨x7,σ7,H7,I7.unpinned,r7,q7⟩
abbrev R2:=V->V->Hp->VK->Prop
def OpR (X:Cx) (f:Value->Value->Sem Value) (r:R2):Prop:=
 ∀(pins:List (Addr×Obj)) (s:Shared) (σ:St) (H:Hp) (x y:V) (v u:Value) (Q:VK),Inv X pins σ H s->RelV x v->RelV y u->r x y H Q->
  wpAny (model X.prog X.w) X.A (f v u) (EP X pins σ Q) X.xe s
def UnR (X:Cx) (f:Value->Sem Value) (r:V->Hp->VK->Prop):Prop:=
 ∀(pins:List (Addr×Obj)) (s:Shared) (σ:St) (H:Hp) (x:V) (v:Value) (Q:VK),Inv X pins σ H s->RelV x v->r x H Q->
  wpAny (model X.prog X.w) X.A (f v) (EP X pins σ Q) X.xe s
def eF (X:Cx) (f:Value) (r:List V->Hp->VK->Prop):Prop:=
 ∀(pins:List (Addr×Obj)) (s:Shared) (σ:St) (H:Hp) (xs:List V) (us:List Value) (Q:VK),Inv X pins σ H s->Vals xs us->r xs H Q->
  wpAny (model X.prog X.w) X.A (call f us) (EP X pins σ Q) X.xe s
def tOp (r:R2) (ta tb:TE):TE:=λσ H Q=>ta σ H λx H1=>tb σ H1 λy H2=>r x y H2 Q
def tUn (r:V->Hp->VK->Prop) (ta:TE):TE:=λσ H Q=>ta σ H λx H1=>r x H1 Q
inductive IrI (C:Int->Int->Prop) (g:Int->Int->V) (x:V) (y:V) (H:Hp) (Q:VK):Prop
 |mk (i j:_) (q0_:x= .int i) (q1_:y= .int j) (q2_:C i j) (q3_:Q (g i j) H):IrI C g x y H Q
def rI (C:Int->Int->Prop) (g:Int->Int->V):R2:=λx y H Q=>IrI C g x y H Q
def rI0 (g:Int->Int->V):R2:=λx y H Q=>∃i j,x= .int i/\y= .int j/\Q (g i j) H
inductive IrU (g:Int->V) (x:V) (H:Hp) (Q:VK):Prop
 |mk (i:_) (q0_:x= .int i) (q1_:Q (g i) H):IrU g x H Q
def rU (g:Int->V):V->Hp->VK->Prop:=λx H Q=>IrU g x H Q
section
variable {X:Cx} {a b c:Expr} {ta tb tc:TE} {pos:Pos}
def aT7 (ha:PE X a ta) (hb:PE X b tb) {pins:List (Addr×Obj)} {s:Shared} {σ:St} {H:Hp} {R:V->V->Hp->Prop} (I:Inv X pins σ H s)
  (h:ta σ H λx H1=>tb σ H1 λy H2=>R x y H2) {f:Value->Value->Sem Value}
  (hf:∀v u s2 x y H2,Inv X pins σ H2 s2->RelV x v->RelV y u->R x y H2->wpAny (model X.prog X.w) X.A (f v u) Q X.xe s2):
  wpAny (model X.prog X.w) X.A (eval a X.env) (λv s₁=>wpAny (model X.prog X.w) X.A (eval b X.env) (λu s₂=>wpAny (model X.prog X.w) X.A (f v u) Q X.xe s₂) X.xe s₁) X.xe s:=by
 refine thn (ha pins s σ H _ I h) λv s1 ⟨x,H1,I1,r1,q1⟩=>?_;refine thn (hb pins s1 σ H1 _ I1 q1) λu s2 ⟨y,H2,I2,r2,q2⟩=>?_;exact hf v u s2 x y H2 I2 r1 r2 q2
def qN {op:Operator} {r:R2} (ho:OpR X (binaryOp op) r) (ha:PE X a ta) (hb:PE X b tb):PE X (.BinOp a op b pos) (tOp r ta tb):=by
 intro pins s σ H Q I h;exact wpAny_BinOp (aT7 ha hb I h λv u s2 x y H2 I2 rx ry q=>ho pins s2 σ H2 x y v u Q I2 rx ry q)
def aTc {op:UnaryOp} {r:V->Hp->VK->Prop} (ho:UnR X (unaryOp op) r) (ha:PE X a ta):PE X (.UnaryOp op a pos) (tUn r ta):=by
 intro pins s σ H Q I h;exact UnaryOp_ (thn (ha pins s σ H _ I h) λv s1 ⟨x,H1,I1,r1,q1⟩=>ho pins s1 σ H1 x v Q I1 r1 q1)
def opI {f:Value->Value->Sem Value} {C:Int->Int->Prop}
  (rule:∀(i j:Int) (t u:Tok) (s:Shared) (Q:Value->Shared->Prop) (E:Value->Shared->Prop),C i j->Q (.int (g i j) s.toks) {s with toks:=s.toks+1}->wpAny (model X.prog X.w) X.A (f (.int i t) (.int j u)) Q E s):
  OpR X f (rI C λi j=> .int (g i j)):=by
 intro pins s σ H x y v u Q I rx ry h;obtain⟨i,j,rfl,rfl,hc,q⟩:=h;obtain⟨t,rfl⟩:=rx;obtain⟨t',rfl⟩:=ry;exact rule i j t t' s _ _ hc ⟨.int (g i j),H,I.tok _,⟨_,rfl⟩,q⟩
def aXe {f:Value->Value->Sem Value}
  (rule:∀(i j:Int) (t u:Tok) (s:Shared) (Q:Value->Shared->Prop) (E:Value->Shared->Prop),Q (.int (g i j) s.toks) {s with toks:=s.toks+1}->wpAny (model X.prog X.w) X.A (f (.int i t) (.int j u)) Q E s):
  OpR X f (rI0 λi j=> .int (g i j)):=by
 intro pins s σ H x y v u Q I rx ry h;obtain⟨i,j,rfl,rfl,q⟩:=h;obtain⟨t,rfl⟩:=rx;obtain⟨t',rfl⟩:=ry;exact rule i j t t' s _ _ ⟨.int (g i j),H,I.tok _,⟨_,rfl⟩,q⟩
def aQx {f:Value->Value->Sem Value} {g:Int->Int->Bool}
  (rule:∀(i j:Int) (t u:Tok) (s:Shared) (Q:Value->Shared->Prop) (E:Value->Shared->Prop),Q (.bool (g i j)) s->wpAny (model X.prog X.w) X.A (f (.int i t) (.int j u)) Q E s):
  OpR X f (rI0 λi j=> .bl (g i j)):=by
 intro pins s σ H x y v u Q I rx ry h;obtain⟨i,j,rfl,rfl,q⟩:=h;obtain⟨t,rfl⟩:=rx;obtain⟨t',rfl⟩:=ry;exact rule i j t t' s _ _ ⟨.bl (g i j),H,I,rfl,q⟩
def aZq (i j:Int):Prop:=0<j/\j<1073741824
def aZh (i j:Int):Prop:=0<=j/\j<=1000000/\i.natAbs<2 ^ 64
def aUr (i j:Int):Prop:=(-(2 ^ 64)<i/\i<2 ^ 64)∨(-(2 ^ 64)<j/\j<2 ^ 64)
def aUr.ok {i j:Int} (h:aUr i j):IntMulOk i j:=by
 rcases h with ⟨h1,h2⟩|⟨h1,h2⟩
 ·exact .of_left (intBits_le_64 h1 h2)
 ·exact .of_right (intBits_le_64 h1 h2)
def uM:OpR X (binaryOp .Add) (rI0 λi j=> .int (i+j)):=aXe λ_ _ _ _ _ _ _ q=>add_int q
def iC:OpR X (binaryOp .Sub) (rI0 λi j=> .int (i-j)):=aXe λ_ _ _ _ _ _ _ q=>sub_int q
def lE:OpR X (binaryOp .Mult) (rI aUr λi j=> .int (i*j)):=opI λ_ _ _ _ _ _ _ hc q=>mul_int q hc.ok
def uW:OpR X (binaryOp .FloorDiv) (rI aZq λi j=> .int (i / j)):=opI λi j _ _ _ _ _ hc q=>by
 have h1:(0:Int)<j:=hc.1;have h2:j<1073741824:=hc.2;exact floordiv_int (by omega) (by rw [Mr i (by omega)];exact q) (.inl (PyProof.noPylong_small (by omega)))
def nZ:OpR X (binaryOp .Mod) (rI (λ_ j=>0<j) λi j=> .int (i % j)):=opI λi j _ _ _ _ _ hc q=>by
 have h1:(0:Int)<j:=hc;exact mod_int' (by omega) (by rw [Int.fmod_eq_emod_of_nonneg i (by omega)];exact q)
def aPi:OpR X (binaryOp .Pow) (rI aZh λi j=> .int (i ^ j.toNat)):=opI λ_ _ _ _ _ _ _ hc q=>pow_int_small hc.1 hc.2.1 hc.2.2 q
def unI {f:Value->Sem Value} {g:Int->Int}
  (rule:∀(i:Int) (t:Tok) (s:Shared) (Q:Value->Shared->Prop) (E:Value->Shared->Prop),Q (.int (g i) s.toks) {s with toks:=s.toks+1}->wpAny (model X.prog X.w) X.A (f (.int i t)) Q E s):
  UnR X f (rU λi=> .int (g i)):=by
 intro pins s σ H x v Q I rx h;obtain⟨i,rfl,q⟩:=h;obtain⟨t,rfl⟩:=rx;exact rule i t s _ _ ⟨.int (g i),H,I.tok _,⟨_,rfl⟩,q⟩
def aPf:UnR X (unaryOp .USub) (rU λi=> .int (-i)):=unI λ_ _ _ _ _ q=>neg_int q
end
def aY1:V->V->Bool
 | .non,.non=>true| .non,.int _=>true| .int _,.non=>true| .non,.bl _=>true| .bl _,.non=>true| .non,.str _=>true| .str _,.non=>true
 | .int _,.int _=>true| .bl _,.bl _=>true| .str _,.str _=>true| .byt _,.byt _=>true
 | .int _,.str _=>true| .str _,.int _=>true| .bl _,.str _=>true| .str _,.bl _=>true
 |_,_=>false
def rEq:R2:=λx y H Q=>aY1 x y=true/\Q (.bl (decide (x=y))) H
def rNe:R2:=λx y H Q=>aY1 x y=true/\Q (.bl (!decide (x=y))) H
def aJu {i j:Int}:decide (V.int i=V.int j)=(i==j):=by
 rw [Ej];simp
def aNf {i j:Bool}:decide (V.bl i=V.bl j)=(i==j):=by
 rw [Ej];simp
def aJp {i j:Str}:decide (V.str i=V.str j)=(i==j):=by
 rw [Ej];simp
def aIn {i j:Array UInt8}:decide (V.byt i=V.byt j)=(i.toList==j.toList):=by
 rw [Ej];cases i;cases j;simp
section
variable {X:Cx} {a b c:Expr} {ta tb tc:TE} {pos:Pos}
def cB {pins:List (Addr×Obj)} {σ:St} {H:Hp} {s:Shared} {Q:VK} {k k':Bool} (I:Inv X pins σ H s) (q:Q (.bl k) H) (e:k=k'):EP X pins σ Q (.bool k') s:=by
 subst e;exact⟨.bl k,H,I,rfl,q⟩
def oG:OpR X (compareOp .Eq) rEq:=by
 intro pins s σ H x y v u Q I rx ry h;obtain⟨hs,q⟩:=h;cases x with
 |non=>
  cases rx;cases y with
  |non=>cases ry;exact Ut (cB I q (by simp))
  |bl j=>cases ry;exact Uv (cB I q (by simp))
  |int j=>obtain⟨t',rfl⟩:=ry;exact Uu (cB I q (by simp))
  |str j=>obtain⟨t',rfl⟩:=ry;exact Us (cB I q (by simp))
  |_=>exact absurd (show false=true from hs) Aj
 |bl i=>
  cases rx;cases y with
  |non=>cases ry;exact Ux (cB I q (by simp))
  |bl j=>cases ry;exact eq_bool (cB I q aNf)
  |str j=>obtain⟨t',rfl⟩:=ry;exact To (cB I q (by simp))
  |_=>exact absurd (show false=true from hs) Aj
 |int i=>
  obtain⟨t,rfl⟩:=rx;cases y with
  |non=>cases ry;exact Uw (cB I q (by simp))
  |int j=>obtain⟨t',rfl⟩:=ry;exact eq_int (cB I q aJu)
  |str j=>obtain⟨t',rfl⟩:=ry;exact Tn (cB I q (by simp))
  |_=>exact absurd (show false=true from hs) Aj
 |str i=>
  obtain⟨t,rfl⟩:=rx;cases y with
  |non=>cases ry;exact Ur (cB I q (by simp))
  |bl j=>cases ry;exact Tj (cB I q (by simp))
  |int j=>obtain⟨t',rfl⟩:=ry;exact Ti (cB I q (by simp))
  |str j=>obtain⟨t',rfl⟩:=ry;exact eq_str (cB I q aJp)
  |_=>exact absurd (show false=true from hs) Aj
 |byt i=>
  obtain⟨t,rfl⟩:=rx;cases y with
  |byt j=>obtain⟨t',rfl⟩:=ry;exact PySem.W.eq_bytes (cB I q aIn)
  |_=>exact absurd (show false=true from hs) Aj
 |_=>cases y<;>exact absurd (show false=true from hs) Aj
def aJj:OpR X (compareOp .NotEq) rNe:=by
 intro pins s σ H x y v u Q I rx ry h;obtain⟨hs,q⟩:=h;cases x with
 |non=>
  cases rx;cases y with
  |non=>cases ry;exact Ul (cB I q (by simp))
  |bl j=>cases ry;exact Uo (cB I q (by simp))
  |int j=>obtain⟨t',rfl⟩:=ry;exact Um (cB I q (by simp))
  |str j=>obtain⟨t',rfl⟩:=ry;exact Uk (cB I q (by simp))
  |_=>exact absurd (show false=true from hs) Aj
 |bl i=>
  cases rx;cases y with
  |non=>cases ry;exact Uq (cB I q (by simp))
  |bl j=>cases ry;exact ne_bool (cB I q (congrArg not aNf))
  |str j=>obtain⟨t',rfl⟩:=ry;exact Th (cB I q (by simp))
  |_=>exact absurd (show false=true from hs) Aj
 |int i=>
  obtain⟨t,rfl⟩:=rx;cases y with
  |non=>cases ry;exact Up (cB I q (by simp))
  |int j=>obtain⟨t',rfl⟩:=ry;exact ne_int (cB I q (congrArg not aJu))
  |str j=>obtain⟨t',rfl⟩:=ry;exact Tf (cB I q (by simp))
  |_=>exact absurd (show false=true from hs) Aj
 |str i=>
  obtain⟨t,rfl⟩:=rx;cases y with
  |non=>cases ry;exact Uj (cB I q (by simp))
  |bl j=>cases ry;exact Te (cB I q (by simp))
  |int j=>obtain⟨t',rfl⟩:=ry;exact Td (cB I q (by simp))
  |str j=>obtain⟨t',rfl⟩:=ry;exact ne_str (cB I q (congrArg not aJp))
  |_=>exact absurd (show false=true from hs) Aj
 |byt i=>
  obtain⟨t,rfl⟩:=rx;cases y with
  |byt j=>obtain⟨t',rfl⟩:=ry;exact PySem.W.ne_bytes (cB I q (congrArg not aIn))
  |_=>exact absurd (show false=true from hs) Aj
 |_=>cases y<;>exact absurd (show false=true from hs) Aj
def vW:OpR X (compareOp .Lt) (rI0 λi j=> .bl (decide (i<j))):=aQx λ_ _ _ _ _ _ _ q=>lt_int q
def uT:OpR X (compareOp .LtE) (rI0 λi j=> .bl (decide (i<=j))):=aQx λ_ _ _ _ _ _ _ q=>le_int q
def tE:OpR X (compareOp .Gt) (rI0 λi j=> .bl (decide (j<i))):=aQx λ_ _ _ _ _ _ _ q=>gt_int q
def aXr:OpR X (compareOp .GtE) (rI0 λi j=> .bl (decide (j<=i))):=aQx λ_ _ _ _ _ _ _ q=>ge_int q
def aLu:OpR X (compareOp .In) (λx y H Q=>∃i j,x= .str i/\y= .str j/\Q (.bl (!(Kx j i 0 j.length 1).isEmpty)) H):=by
 intro pins s σ H x y v u Q I rx ry h;obtain⟨i,j,rfl,rfl,q⟩:=h;obtain⟨t,rfl⟩:=rx;obtain⟨t',rfl⟩:=ry;exact in_str (cB I q rfl)
def OpR.or {f:Value->Value->Sem Value} {r r':R2} (h:OpR X f r) (h':OpR X f r'):OpR X f (λx y H Q=>r x y H Q∨r' x y H Q):=by
 intro pins s σ H x y v u Q I rx ry q;rcases q with q|q
 ·exact h pins s σ H x y v u Q I rx ry q
 ·exact h' pins s σ H x y v u Q I rx ry q
def dC (b:Expr) {op:CmpOp} (h:op≠ .In:=by decide) (h2:op≠ .NotIn:=by decide):behindInMarks op b=false:=by
 have e1:(op==CmpOp.In)=false:=by cases op<;>first|rfl|exact absurd rfl h
 have e2:(op==Tz)=false:=by cases op<;>first|rfl|exact absurd rfl h2
 cases b<;>simp [behindInMarks,e1,e2]
def aDe {op:CmpOp} {r:R2} (ho:OpR X (compareOp op) r) (ha:PE X a ta) (hb:PE X b tb) (hm:behindInMarks op b=false):PE X (.Compare a [op] [b] pos) (tOp r ta tb):=by
 intro pins s σ H Q I h;exact wpAny_Compare1 (aT7 ha hb I h λv u s2 x y H2 I2 rx ry q=>ho pins s2 σ H2 x y v u Q I2 rx ry q) hm
def aNj (t:TE):TT:=λσ H Q=>t σ H λx H1=>rBl x H1 Q
def cM {op:CmpOp} {r:R2} (ho:OpR X (compareOp op) r) (ha:PE X a ta) (hb:PE X b tb) (hm:behindInMarks op b=false):PT X (.Compare a [op] [b] pos) (aNj (tOp r ta tb)):=by
 intro pins s σ H Q I h;refine Qk (thn (ha pins s σ H _ I h) λv s1 ⟨x,H1,I1,r1,q1⟩=>thn (hb pins s1 σ H1 _ I1 q1) λu s2 ⟨y,H2,I2,r2,q2⟩=>
  thn (ho pins s2 σ H2 x y v u _ I2 r1 r2 q2) λc s3 ⟨z,H3,I3,r3,k,e,q3⟩=>?_) hm
 subst e;cases r3;exact Ck ⟨H3,I3,q3⟩
def aG6 (r r':R2) (ta tb tc:TE):TE:=λσ H Q=>ta σ H λx H1=>tb σ H1 λy H2=>r x y H2 λz H3=>∃k,z= .bl k/\
 (if k=true then tc σ H3 λw' H4=>r' y w' H4 Q else Q (.bl false) H3)
def aNx {op op':CmpOp} {r r':R2} (ho:OpR X (compareOp op) r) (ho':OpR X (compareOp op') r') (ha:PE X a ta) (hb:PE X b tb) (hc:PE X c tc)
  (hm:lastMarks [op,op'] [b,c]=false:=by with_unfolding_all rfl):PE X (.Compare a [op,op'] [b,c] pos) (aG6 r r' ta tb tc):=by
 intro pins s σ H Q I h;refine Compare_chain (thn (ha pins s σ H _ I h) λv s1 ⟨x,H1,I1,r1,q1⟩=>chain_link (thn (hb pins s1 σ H1 _ I1 q1) λu s2 ⟨y,H2,I2,r2,q2⟩=>
  thn (ho pins s2 σ H2 x y v u _ I2 r1 r2 q2) λd s3 ⟨z,H3,I3,r3,k,e,q3⟩=>?_)) hm
 subst e;cases r3;refine Ck ?_;cases k with
 |false=>exact ite_ff ⟨.bl false,H3,I3,rfl,q3⟩
 |true=>exact ite_tt (chain_last (thn (hc pins s3 σ H3 _ I3 q3) λw' s4 ⟨z',H4,I4,r4,q4⟩=>ho' pins s4 σ H4 y z' u w' Q I4 r2 r4 q4))
def aQa {op op':CmpOp} {r r':R2} (ho:OpR X (compareOp op) r) (ho':OpR X (compareOp op') r') (ha:PE X a ta) (hb:PE X b tb) (hc:PE X c tc)
  (hm:lastMarks [op,op'] [b,c]=false:=by with_unfolding_all rfl):PT X (.Compare a [op,op'] [b,c] pos) (aNj (aG6 r r' ta tb tc)):=by
 intro pins s σ H Q I h;refine isTrue_chain (thn (ha pins s σ H _ I h) λv s1 ⟨x,H1,I1,r1,q1⟩=>test_link (thn (hb pins s1 σ H1 _ I1 q1) λu s2 ⟨y,H2,I2,r2,q2⟩=>
  thn (ho pins s2 σ H2 x y v u _ I2 r1 r2 q2) λd s3 ⟨z,H3,I3,r3,k,e,q3⟩=>?_)) hm
 subst e;cases r3;refine Ck ?_;cases k with
 |false=>
  obtain⟨k',e',q'⟩:=q3;cases e';exact ite_ff ⟨H3,I3,q'⟩
 |true=>
  refine ite_tt (test_last (thn (hc pins s3 σ H3 _ I3 q3) λw' s4 ⟨z',H4,I4,r4,q4⟩=>thn (ho' pins s4 σ H4 y z' u w' _ I4 r2 r4 q4) λd' s5 ⟨z2,H5,I5,r5,k2,e2,q5⟩=>?_));subst e2;cases r5;exact Ck ⟨H5,I5,q5⟩
def wD:(sizeLine:Nat)<2 ^ 63:=by rw [Cr];decide
def zW:OpR X (binaryOp .Add) (λx y H Q=>∃i j,x= .str i/\y= .str j/\i.length+j.length<=sizeLine/\Q (.str (i++j)) H):=by
 intro pins s σ H x y v u Q I rx ry h;obtain⟨i,j,rfl,rfl,hz,q⟩:=h;obtain⟨t,rfl⟩:=rx;obtain⟨t',rfl⟩:=ry;exact add_str (λt' tk=>⟨.str (i++j),H,I.tok _,⟨_,rfl⟩,q⟩) hz
def vals1 {x:V} (r:Vals [x] us):∃u,us=[u]/\RelV x u:=by
 cases r with
 |cons r1 r2=>cases r2;exact⟨_,rfl,r1⟩
def vals2 {x y:V} (r:Vals [x,y] us):∃u w',us=[u,w']/\RelV x u/\RelV y w':=by
 cases r with
 |cons r1 r2=>
  cases r2 with
  |cons r3 r4=>cases r4;exact⟨_,_,rfl,r1,r3⟩
def aLe (hc:X.calm=true):eF X (.builtin "min") (λxs H Q=>∃i j,xs=[.int i,.int j]/\Q (.int (if j<i then j else i)) H):=by
 intro pins s σ H xs us Q I r h;obtain⟨i,j,rfl,q⟩:=h;obtain⟨u,w',rfl,⟨t,rfl⟩,⟨t',rfl⟩⟩:=vals2 r;refine min_two_ints (I.ok.hd hc) λh' tk k=>⟨_,H,I.kept k,?_,q⟩;by_cases hj:j<i
 ·rw [if_pos hj,if_pos hj];exact⟨_,rfl⟩
 ·rw [if_neg hj,if_neg hj];exact⟨_,rfl⟩
def aCh:eF X (.type "int") (λxs H Q=>(∃i,xs=[.int i]/\Q (.int i) H)∨∃k,xs=[.bl k]/\Q (.int (if k then 1 else 0)) H):=by
 intro pins s σ H xs us Q I r h;rcases h with ⟨i,rfl,q⟩|⟨k,rfl,q⟩
 ·obtain⟨u,rfl,t,rfl⟩:=vals1 r;exact call_int_int ⟨.int i,H,I,⟨_,rfl⟩,q⟩
 ·obtain⟨u,rfl,r1⟩:=vals1 r;cases r1;exact call_int_bool ⟨.int (if k then 1 else 0),H,I.tok _,⟨_,rfl⟩,q⟩
def aDi:eF X (.type "str") (λxs H Q=>∃i,xs=[.int i]/\i.natAbs.log2<1920/\Q (.str (toString i)) H):=by
 intro pins s σ H xs us Q I r h;obtain⟨i,rfl,hz,q⟩:=h;obtain⟨u,rfl,t,rfl⟩:=vals1 r;exact PySem.P.str_of_int hz ⟨.str _,H,I.tok _,⟨_,rfl⟩,q⟩
end
structure aH9 (h:Heap) (x dx C:Addr) (mA:Str->Option Value):Prop where
 obj:h.get? x=some (Er C dx)
 ns:h.Ns1 dx mA
 ne:dx≠x
def aKx {h:Heap} {dx:Addr} (n:h.Ns1 dx mA):∃od,h.get? dx=some od/\∀name,Jc name od=some (mA name):=by
 obtain⟨o,es,ep,ho,hd,hk,_,hm⟩:=n;refine⟨o,ho,λname=>?_⟩;have e:=hm name;unfold nsFind findBy at e;rw [<-Array.find?_toList]at e;unfold Jc;rw [hd];dsimp only;split
 ·rename_i y q;rw [q]at e;exact congrArg some e
 ·rename_i q;rw [q]at e;have a:es.toList.any (·.refKey)=false:=by
   rw [List.any_eq_false];intro y hy;obtain⟨z,t,hkey⟩:=hk y (Array.mem_toList_iff.mp hy);simp [DictEntry.refKey,hkey]
  have a':¬es.toList.any (·.refKey)=true:=by rw [a];exact Aj
  rw [if_neg a'];exact congrArg some e
def aH9.look {h:Heap} {x dx C:Addr} (I:aH9 h x dx C mA):∃od,PySem.W.InstAt h x (Er C dx) C (some od)/\∀name,Jc name od=some (mA name):=
 let⟨od,ho,hl⟩:=aKx I.ns
 ⟨od,⟨I.obj,rfl,rfl,ho⟩,hl⟩
variable {prog:Program} {A:Around} {E:Value->Shared->Prop} {K:Ac} {x dx C f:Addr} {mA:Str->Option Value} {name:Str} {v:Value}
def aDt {expr:Bool} (X:K.In s.heap) (I:aH9 s.heap x dx C mA) (hg:Ie K C name=true) (hh:Kc K C=true)
  (ha:Di K (.ref C) name=some none) (hv:mA name=some v) (hv':Ph v=true) (h:Q v {s with toks:=s.toks+1}):
  wpAny (model prog w) A (getAttr (.ref x) name expr) Q E s:=by
 obtain⟨od,J,hl⟩:=I.look;exact PySem.W.get_value X J (Jh hg).1 (PySem.W.findObj_own hh ha rfl (by rw [hl,hv])) hv' h
def aMe {pl:Sem Bool} {Q:Value×List Value->Shared->Prop} (X:K.In s.heap) (I:aH9 s.heap x dx C mA) (hg:Ie K C name=true)
  (hf:Di K (.ref C) name=some (some (.ref f))) (ht:Na K (.ref f)=true) (hv:mA name=none) (h:Q (.ref f,[.ref x]) s):
  wpAny (model prog w) A (getMethod (.ref x) name pl) Q E s:=by
 obtain⟨od,J,hl⟩:=I.look;exact PySem.W.method_fn X J (Jh hg).1 (Jh hg).2 hf (beq_iff_eq.mp ht) (by show(Jc name od).map (·.isSome)=some false;rw [hl,hv];rfl) h
def aSg {ns:List Str} {Q:Unit->Shared->Prop} (X:K.In s.heap) (I:aH9 s.heap x dx C mA)
  (hs:Di K (.ref C) "__setattr__"=some (some (.builtin "object.__setattr__"))) (hp:Ou K C=true) (ht:Kq K C name=some none) (hh:Kc K C=true)
  (hw:Nx mA ns) (hsz:ns.length<=sizeLine)
  (h:∀h',aH9 h' x dx C (λy=>if y=name then some v else mA y)->Cw dx s.heap h'->Q () {s with heap:=h',toks:=s.toks+2}):
  wpAny (model prog w) A (setAttr (.ref x) name v) Q E s:=by
 obtain⟨od,J,hl⟩:=I.look;refine PySem.W.set_plain X J hs (PySem.W.osa_open (s:={s with toks:=s.toks+1}) (r:=none) X J hp ht λb=>?_);obtain⟨cd,hc,hd'⟩:=PySem.W.any_some hh;have hx:s.heap.get? x=some ⟨.ref C,some dx,.plain, #[]⟩:=I.obj;refine Aa (Af (Aa (Aa (wpAny_loadPart hx (Aa (Sz (s:={s with toks:=s.toks+1}) (PySem.W.looks_clsIn X hc) ?_))))));rw [hd'];refine Af (a:=some dx) (Aa (Af (Aa ?_)));refine wpAny_nsSet1 (s:={s with toks:=s.toks+1}) I.ns λh' hn2 hs2=>?_;obtain⟨oD,esD,epD,hoD,hdD,hcD⟩:=hn2.count (Ui name v hw);refine Aa (wpAny_lookBehind hoD (by rw [hdD];exact pastItsLine_dict (Cp hcD (by rw [Ah];omega))) ?_);exact Af (h _ ⟨(hs2.2 _ (Cy I.ne)).trans I.obj,hn2,I.ne⟩ hs2)
def aO4 {R:Result->Shared->Prop} {vs:List Value} (X:K.In s.heap) (hm:Kr K C=true)
  (hi:Di K (.ref C) "__init__"=some (some (.ref f))) (hf:PySem.W.typeIn K (.ref f)=some (.type "function"))
  (h:codeAny (model prog w) (A.under (.builtin "type.__call__" ⟨.ref C::vs,kw⟩)) (.call (.ref f) ⟨.ref (s.heap.objs.size+1)::vs,kw⟩) (PySem.W.InitBack (s.heap.objs.size+1) R)
   {s with heap:=(s.heap.push Dp).push (Er C s.heap.objs.size)}):
  codeAny (model prog w) A (.call (.ref C) ⟨vs,kw⟩) R s:=by
 obtain⟨hh,g,d,t,os⟩:=s;exact PySem.W.make_core (PySem.W.makes_of X hm) (PySem.W.looks_findIn X hi) (λself=>PySem.W.bind_fn X self hf) (.inl rfl) h
def jX (f:Str) (v:V):List (Str×V)->List (Str×V)
 | []=>[(f,v)]
 |(g,x)::r=>if g=f then(g,v)::r else(g,x)::jX f v r
theorem xM (f g:Str) (v:V):∀fs:List (Str×V),(jX f v fs).lookup g=if g=f then some v else fs.lookup g
 | []=>by
  show Fl g [(f,v)]=_;by_cases h:g=f
  ·have hb:(g==f)=true:=beq_iff_eq.mpr h;simp only [Fl,hb,if_pos h]
  ·have hb:(g==f)=false:=beq_eq_false_iff_ne.mpr h;simp only [Fl,hb,if_neg h]
 |(k,x)::r=>by
  have ih:=xM f g v r;rw [show jX f v ((k,x)::r)=(if k=f then(k,v)::r else(k,x)::jX f v r)from rfl];by_cases hk:k=f
  ·rw [if_pos hk];by_cases h:g=k
   ·have hb:(g==k)=true:=beq_iff_eq.mpr h;simp only [Fl,hb,if_pos (h.trans hk)]
   ·have hb:(g==k)=false:=beq_eq_false_iff_ne.mpr h;simp only [Fl,hb,if_neg (λe:g=f=>h (e.trans hk.symm))]
  ·rw [if_neg hk];by_cases h:g=k
   ·have hb:(g==k)=true:=beq_iff_eq.mpr h;simp only [Fl,hb,if_neg (λe:g=f=>hk (h.symm.trans e))]
   ·have hb:(g==k)=false:=beq_eq_false_iff_ne.mpr h;simp only [Fl,hb];exact ih
theorem wM (f:Str) (v:V):∀fs:List (Str×V),f∈(jX f v fs).map (·.1)/\∀g,g∈fs.map (·.1)->g∈(jX f v fs).map (·.1)
 | []=>⟨by simp [jX],λg h=>by simp at h⟩
 |(k,x)::r=>by
  obtain⟨i1,i2⟩:=wM f v r;rw [show jX f v ((k,x)::r)=(if k=f then(k,v)::r else(k,x)::jX f v r)from rfl];by_cases hk:k=f
  ·rw [if_pos hk];subst hk;exact⟨by simp,λg h=>by simpa using h⟩
  ·rw [if_neg hk];refine⟨?_,λg h=>?_⟩
   ·rw [Aw];exact Ad _ i1
   ·rw [Aw]at h⊢;rcases List.mem_cons.mp h with e|e
    ·exact List.mem_cons.mpr (.inl e)
    ·exact Ad _ (i2 g e)
theorem xQ (f:Str) (v:V):∀fs:List (Str×V),(jX f v fs).length<=fs.length+1
 | []=>by simp [jX]
 |(k,x)::r=>by
  have ih:=xQ f v r;rw [show jX f v ((k,x)::r)=(if k=f then(k,v)::r else(k,x)::jX f v r)from rfl];by_cases hk:k=f
  ·rw [if_pos hk,Ah,Ah];omega
  ·rw [if_neg hk,Ah,Ah];omega
def sX.some_of {v:V} {o:Option Value} (r:sX (some v) o):∃u,o=some u/\RelV v u:=by
 cases o with
 |none=>exact(show False from r).elim
 |some u=>exact⟨u,rfl,r⟩
def sX.none_of {o:Option Value} (r:sX none o):o=none:=by
 cases o with
 |none=>rfl
 |some u=>exact(show False from r).elim
def aLf {v:V} (r:RelV v u):Ph u=true:=by
 cases v with
 |non=>cases (show u=Ce from r);rfl
 |bl b=>cases (show u=Ga b from r);rfl
 |int i=>obtain⟨t,e⟩:=(show∃t,u=Cz i t from r);cases e;rfl
 |str x=>obtain⟨t,e⟩:=(show∃t,u=Ka x t from r);cases e;rfl
 |byt b=>obtain⟨t,e⟩:=(show∃t,u=Sx b t from r);cases e;rfl
 |flt b=>obtain⟨t,e⟩:=(show∃t,u=Oq b t from r);cases e;rfl
 |ref a=>cases (show u=An a from r);rfl
 |ty n=>cases (show u=Ia n from r);rfl
variable {fs fs':List (Str×V)}
def yS (hok:HOk P w H h) (e:H a=some (.ins C dx fs)):∃mA,aH9 h a dx C mA/\(∀f,sX (fs.lookup f) (mA f))/\Nx mA (fs.map (·.1))/\fs.length<=1000/\H dx=some (.own a):=by
 obtain⟨d,z,ne,ob,mA,n,r,q⟩:=(show cL P w H h a (.ins C dx fs)from hok a _ e);exact⟨mA,⟨ob,n,ne⟩,r,q,z,d⟩
structure Cls (K:Ac) (C:Addr):Prop where
 pg:Ie K C Str.empty=true
 hd:Kc K C=true
 po:Ou K C=true
 sa:Di K (.ref C) "__setattr__"=some (some (.builtin "object.__setattr__"))
def Cls.get {K:Ac} {C:Addr} (c:Cls K C) (f:Str):Ie K C f=true:=c.pg
def kY (K:Ac) (C:Addr) (f:Str):Prop:=Di K (.ref C) f=some none
def kY.taker {K:Ac} {C:Addr} {f:Str} (n:kY K C f):Kq K C f=some none:=by
 unfold Kq;rw [show Di K (.ref C) f=some none from n];rfl
structure Meth (K:Ac) (C:Addr) (m:Str) (f:Addr):Prop where
 at_:Di K (.ref C) m=some (some (.ref f))
 fn:Na K (.ref f)=true
 kp:Fs K (.ref f)=true
section
variable {X:Cx} {pins:List (Addr×Obj)} {σ:St} {H:Hp} {s:Shared} {a C dx:Addr} {fs:List (Str×V)} {f:Str} {v:V} {A:Around} {E:Value->Shared->Prop}
def aGs {b:Bool} (I:Inv X pins σ H s) (e:H a=some (.ins C dx fs)) (c:Cls X.K C) (n:kY X.K C f) (l:fs.lookup f=some v)
  (h:∀u s',Inv X pins σ H s'->RelV v u->Q u s'):wpAny (model X.prog X.w) A (getAttr (.ref a) f b) Q E s:=by
 obtain⟨mA,O,r,_,_,_⟩:=yS I.hok e;obtain⟨u,hu,ru⟩:=sX.some_of (v:=v) (o:=mA f) (by rw [<-l];exact r f);exact aDt I.kIn O (c.get f) c.hd n hu (aLf ru) (h u _ (I.tok _) ru)
def aAs {m:Str} {g:Addr} {pl:Sem Bool} {Q:Value×List Value->Shared->Prop} (I:Inv X pins σ H s) (e:H a=some (.ins C dx fs)) (c:Cls X.K C) (k:Meth X.K C m g) (l:fs.lookup m=none)
  (h:Q (.ref g,[.ref a]) s):wpAny (model X.prog X.w) A (getMethod (.ref a) m pl) Q E s:=by
 obtain⟨mA,O,r,_,_,_⟩:=yS I.hok e;have hn:mA m=none:=sX.none_of (by rw [<-l];exact r m);exact aMe I.kIn O (c.get m) k.at_ k.fn hn h
def aGp {y:V} {Q:Unit->Shared->Prop} (I:Inv X pins σ H s) (e:H a=some (.ins C dx fs)) (c:Cls X.K C) (n:kY X.K C f) (hl:fs.length<1000) (ry:RelV y u)
  (h:∀s',Inv X pins σ (upd H a (.ins C dx (jX f y fs))) s'->Q () s'):wpAny (model X.prog X.w) A (setAttr (.ref a) f u) Q E s:=by
 obtain⟨mA,O,r,wi,_,ho⟩:=yS I.hok e;have hz:(fs.map (·.1)).length<=sizeLine:=by rw [Ab,Cr];omega
 refine aSg I.kIn O c.sa c.po n.taker c.hd wi hz λh' O' sb=>h _ ?_;have hd:∃o,h'.get? dx=some o:=let⟨o,_,_,e',_⟩:=O'.ns;⟨o,e'⟩;refine I.write (x:=a) (e:=dx) (by rw [e];exact En) (.inr ho) (λb q hb z=>(sb.2 b hb).trans z) hd ?_;refine⟨by rw [aM O.ne];exact ho,?_,O.ne,O'.obj,_,O'.ns,λg=>?_,λg hg=>?_⟩
 ·have:=xQ f y fs;omega
 ·show sX ((jX f y fs).lookup g) (if g=f then some u else mA g);rw [xM];by_cases q:g=f
  ·rw [if_pos q,if_pos q];exact ry
  ·rw [if_neg q,if_neg q];exact r g
 ·by_cases q:g=f
  ·rw [q];exact(wM f y fs).1
  ·refine(wM f y fs).2 g (wi g λz=>hg ?_);show(if g=f then some u else mA g)=none;rw [if_neg q];exact z
def Inv.made (I:Inv X pins σ H s):Inv X pins σ (upd (upd H s.heap.objs.size (.own (s.heap.objs.size+1))) (s.heap.objs.size+1) (.ins C s.heap.objs.size []))
  {s with heap:=(s.heap.push Dp).push (Er C s.heap.objs.size)}:=by
 have e1:(s.heap.push Dp).get? s.heap.objs.size=some Dp:=Ar s.heap rfl;have e2:((s.heap.push Dp).push (Er C s.heap.objs.size)).get? (s.heap.objs.size+1)=some (Er C s.heap.objs.size):=by
  have:=Ar (s.heap.push Dp) (o:=Er C s.heap.objs.size) rfl
  rwa [Dk]at this
 have e3:(s.heap.push Dp).Ns s.heap.objs.size (λ_=>none):=⟨Dp, #[],_,e1,rfl,(λe he=>absurd he (by simp)),λ_=>rfl⟩;have I1:=I.laid (a:=s.heap.objs.size) (o:= .own (s.heap.objs.size+1)) (h':=s.heap.push Dp) (t':=s.toks) (λb u q=>Ai _ q) (Am _) ⟨_,e1⟩;refine I1.laid (a:=s.heap.objs.size+1) (o:= .ins C s.heap.objs.size []) (t':=s.toks) (λb u q=>Ai _ q) (Oz (Dk _ _)) ?_;have ne:s.heap.objs.size≠s.heap.objs.size+1:=Ax (Ed _);refine⟨by rw [aM ne,aJ],Bb _,ne,e2,λ_=>none,(Heap.Ns1.of_empty e3).at λo q=>Ai _ q,λ_=>En,λy hy=>absurd rfl hy⟩
def aQn {prog:Program} {w:World} {env:Env} {e:Expr} {f:Str} {pos:Pos} {s:Shared} (hb:attributeBase e f env (eval e env)=eval e env)
  (h:wpAny (model prog w) A (eval e env) (λo s₁=>wpAny (model prog w) A (getAttr o f true) Q E s₁) E s):wpAny (model prog w) A (eval (.Attribute e f pos) env) Q E s:=
 Attribute_any_ h (by rw [arm_eval_Attribute,hb])
end
def aZl (K:Ac) (ta:TE) (f:Str):TE:=λσ H Q=>ta σ H λx H1=>∃a C dx fs v,x= .ref a/\H1 a=some (.ins C dx fs)/\Cls K C/\kY K C f/\fs.lookup f=some v/\Q v H1
def aZt (K:Ac) (ta tv:TE) (f:Str):TS:=λD σ H=>tv σ H λy H1=>ta σ H1 λx H2=>∃a C dx fs,x= .ref a/\H2 a=some (.ins C dx fs)/\Cls K C/\kY K C f/\fs.length<1000/\
 D.nx σ (upd H2 a (.ins C dx (jX f y fs)))
section
variable {X:Cx} {o e value:Expr} {f:Str} {pos pos' tpos:Pos} {ta tv:TE}
def mK (he:PE X e ta) (hb:attributeBase e f X.env (eval e X.env)=eval e X.env):PE X (.Attribute e f pos) (aZl X.K ta f):=by
 intro pins s σ H Q I h;refine aQn hb (thn (he pins s σ H _ I h) λu s1 ⟨x,H1,I1,rx,a,C,dx,fs,v,ex,ea,c,n,l,q⟩=>?_);subst ex;obtain rfl:u=An a:=rx;exact aGs I1 ea c n l λu' s2 I2 ru=>⟨v,H1,I2,ru,q⟩
def dF (ha:PE X o ta) (hv:PE X value tv) (hs:swapsWith value (some (.Attribute o f pos')) pos.line X.env=pure false):PS X (.Assign [.Attribute o f pos'] value pos) (aZt X.K ta tv f):=by
 intro pins s σ H D I h;refine plainObj_wpAny_Assign_Attribute (thn (hv pins s σ H _ I h) λu s1 ⟨y,H1,I1,ry,q⟩=>thn (ha pins s1 σ H1 _ I1 q) λov s2 ⟨x,H2,I2,rx,a,C,dx,fs,ex,ea,c,n,l,q2⟩=>?_) hs;subst ex;obtain rfl:ov=An a:=rx;exact aGp I2 ea c n l ry λs3 I3=>⟨σ,_,I3,q2⟩
end
section
variable {X:Cx} {pins:List (Addr×Obj)} {σ:St} {H:Hp} {s:Shared} {A:Around} {E:Value->Shared->Prop} {Q:Value->Shared->Prop} {c:Value} {b:Bool}
inductive uX (K:Ac) (H:Hp):V->Value->Prop where
 |non:uX K H .non (.type "NoneType")
 |bl (x:Bool):uX K H (.bl x) (.type "bool")
 |int (i:Int):uX K H (.int i) (.type "int")
 |str (x:Str):uX K H (.str x) (.type "str")
 |flt (x:UInt64):uX K H (.flt x) (.type "float")
 |lst {a:Addr} {xs:List V} (e:H a=some (.lst xs)):uX K H (.ref a) (.type "list")
 |frz {a:Addr} {o:Obj} {xs:List V} (e:H a=some (.frz o (.lst xs))):uX K H (.ref a) (.type "list")
 |tup {a:Addr} {xs:List V} (e:H a=some (.tup xs)):uX K H (.ref a) (.type "tuple")
 |dK {a:Addr} {kvs:List (Key×V)} (e:H a=some (.dK kvs)):uX K H (.ref a) (.type "dict")
 |dT {a:Addr} {kvs:List (List Key×V)} (e:H a=some (.dT kvs)):uX K H (.ref a) (.type "dict")
 |ins {a C dx:Addr} {fs:List (Str×V)} (e:H a=some (.ins C dx fs)) (cl:Cls K C) (ha:Di K (.ref C) "__class__"=some (some (.builtin "object.__class__")))
   (hn:PySem.W.specialIn K (.builtin "object.__class__") "__get__"=some (some (.builtin "getset_descriptor.__get__"))) (htk:PySem.W.takesIn K (.builtin "object.__class__")=some true)
   (hm:PySem.W.mroIn K C (.type "object")=some true):uX K H (.ref a) (.ref C)
def aKa {x:V} {u t:Value} (I:Inv X pins σ H s) (rx:RelV x u) (ty:uX X.K H x t) (e:Lg X.K t c=some b) (h:∀tk,Q (.bool b) {s with toks:=tk}):
  wpAny (model X.prog X.w) A (call (.builtin "isinstance") [u,c]) Q E s:=by
 cases ty with
 |non=>cases (show u=Ce from rx);exact Dj PySem.W.kitx_none I.kIn En e (λz=>nomatch z) h
 |bl y=>cases (show u=Ga y from rx);exact Dj PySem.W.kitx_bool I.kIn En e (λz=>nomatch z) h
 |int i=>obtain⟨t,q⟩:=(show∃t,u=Cz i t from rx);cases q;exact Dj PySem.W.kitx_int I.kIn En e (λz=>nomatch z) h
 |str y=>obtain⟨t,q⟩:=(show∃t,u=Ka y t from rx);cases q;exact Dj PySem.W.kitx_str I.kIn En e (λz=>nomatch z) h
 |flt y=>obtain⟨t,q⟩:=(show∃t,u=Oq y t from rx);cases q;exact Dj PySem.W.kitx_float I.kIn En e (λz=>nomatch z) h
 |@lst a xs ea=>
  cases (show u=An a from rx);obtain⟨_,_,n,_,h1⟩:=(show cL X.prog X.w H s.heap a (.lst xs)from I.hok a _ ea);exact Dj Ov I.kIn ⟨_,h1,rfl⟩ e (λz=>nomatch z) h
 |@frz a ob xs ea=>
  cases (show u=An a from rx);obtain⟨_,_,_,n,_,h1⟩:=(show cL X.prog X.w H s.heap a (.frz ob (.lst xs))from I.hok a _ ea);exact Dj Ov I.kIn ⟨_,h1,rfl⟩ e (λz=>nomatch z) h
 |@tup a xs ea=>
  cases (show u=An a from rx);obtain⟨_,_,_,p⟩:=(show cL X.prog X.w H s.heap a (.tup xs)from I.hok a _ ea);obtain⟨o,h1,h2,_⟩:=p;exact Dj PySem.W.kitx_tuple I.kIn ⟨o,h1,h2⟩ e (λz=>nomatch z) h
 |@dK a kvs ea=>
  cases (show u=An a from rx);obtain⟨_,_,vs,_,p⟩:=(show cL X.prog X.w H s.heap a (.dK kvs)from I.hok a _ ea);obtain⟨o,es,ep,h1,h2,_⟩:=p;exact Dj Ow I.kIn ⟨o,h1,h2.1⟩ e (λz=>nomatch z) h
 |@dT a kvs ea=>
  cases (show u=An a from rx);obtain⟨_,_,xs,_,o,es,ep,h1,h2,_⟩:=(show cL X.prog X.w H s.heap a (.dT kvs)from I.hok a _ ea);exact Dj Ow I.kIn ⟨o,h1,h2.1⟩ e (λz=>nomatch z) h
 |@ins a C dx fs ea cl ha hn htk hm=>
  cases (show u=An a from rx);obtain⟨mA,O,_⟩:=yS I.hok ea;obtain⟨od,J,_⟩:=O.look;exact Dj (PySem.W.kitx_own (cl.get _) cl.hd ha hn htk hm) I.kIn J e (λz=>nomatch z) h
end
structure dH (k:Nat) (A:Around):Prop where
 hd:A.handled=none
 dp:A.depth+3*k+5<recursionLimit
 un:A.units+16*k+200<cLine
def dH.mono {j k:Nat} {A:Around} (r:dH k A) (h:j<=k):dH j A:=⟨r.hd,by have:=r.dp;omega,by have:=r.un;omega⟩
def dH.deeper {A:Around} (r:dH (k+1) A) (env:Env):dH k (A.deeper env):=
 ⟨r.hd,by have:=r.dp;show A.depth+1+3*k+5<_;omega,by have:=r.un;show A.units+3+16*k+200<_;omega⟩
def aG2 {A:Around} {C:Addr}:(A.under (.builtin "type.__call__" ⟨.ref C::us,kw⟩)).depth=A.depth+1:=by
 first|rfl|simp [Nm,Code.weight,Code.isCreation,Code.isGuard,Code.isCaller,Vk,Oh,guardIds]
def aHu {A:Around} {C:Addr}:(A.under (.builtin "type.__call__" ⟨.ref C::us,kw⟩)).units=A.units+1:=by
 first|rfl|simp [Nm,Code.cUnits,Vk,Oh]
def dH.make {A:Around} (r:dH (k+1) A) (C:Addr) (us:List Value) (kw:List (Str×Value)):dH k (A.under (.builtin "type.__call__" ⟨.ref C::us,kw⟩)):=
 ⟨r.hd,by have:=r.dp;rw [aG2];omega,by have:=r.un;rw [aHu];omega⟩
def dH.depth {A:Around} (r:dH k A):A.depth<recursionLimit:=by have:=r.dp;omega
def dH.units {A:Around} (r:dH k A):A.units+64<cLine:=by have:=r.un;omega
def aKi:TA:=λ_ H Q=>Q [] H
def aEm (ta:TE) (tr:TA):TA:=λσ H Q=>ta σ H λx H1=>tr σ H1 λxs H2=>Q (x::xs) H2
section
variable {X:Cx} {e:Expr} {es:List Expr} {te:TE} {t:TA} {pos:Pos}
def aZ:PA X [] aKi:=λ_ _ _ _ H Q I h=>Calls.spliced_nil ⟨[],H,I,.nil,h⟩
def aN (ha:PE X e te) (hr:PA X es t) (hs:starEach (e::es) X.env=(false,eval e X.env)::starEach es X.env:=by rfl):PA X (e::es) (aEm te t):=by
 intro pos pins s σ H Q I h;rw [hs];show wpAny _ _ (spliced ((false,eval e X.env)::backTo pos (starEach es X.env))) _ _ s;refine Calls.spliced_cons (thn (ha pins s σ H _ I h) λu s1 ⟨x,H1,I1,r1,q1⟩=>?_);exact thn (hr pos pins s1 σ H1 _ I1 q1) λus s2 ⟨xs,H2,I2,r2,q2⟩=>⟨x::xs,H2,I2,.cons r1 r2,q2⟩
def aXb (t:TA):TE:=λσ H Q=>t σ H λxs H1=>xs.length<=sizeLine/\∀p,H1 p=none->Q (.ref p) (upd H1 p (.tup xs))
def aW7 (t:TA):TE:=λσ H Q=>t σ H λxs H1=>xs.length<=sizeLine/\∀p,H1 p=none->Q (.ref p) (upd H1 p (.lst xs))
def aPv {x1} (h:PA X es t):PE X (.Tuple es x1 pos) (aXb t):=by
 intro pins s σ H Q I hq;refine wpAny_Tuple_spliced (thn (h pos pins s σ H _ I hq) λus s1 ⟨xs,H1,I1,r,z,q⟩=>⟨by rw [<-r.length];exact z,?_⟩);have hf:H1 s1.heap.objs.size=none:=I1.hok.fresh (Am _);refine⟨.ref s1.heap.objs.size,upd H1 s1.heap.objs.size (.tup xs),I1.laid (t':=s1.toks) (λb u e=>Ai _ e) (Am _) ?_,rfl,q _ hf⟩;exact⟨z,us,r,⟨_,Ar _ rfl,rfl,_,rfl⟩⟩
def aHj (h:PA X es t):PE X (.List es pos) (aW7 t):=by
 intro pins s σ H Q I hq;refine wpAny_List_spliced (thn (h pos pins s σ H _ I hq) λus s1 ⟨xs,H1,I1,r,z,q⟩=>⟨by rw [<-r.length];exact z,?_⟩);have hf:H1 s1.heap.objs.size=none:=I1.hok.fresh (Am _);refine⟨.ref s1.heap.objs.size,upd H1 s1.heap.objs.size (.lst xs),I1.laid (t':=s1.toks) (λb u e=>Ai _ e) (Am _) ?_,rfl,q _ hf⟩;exact⟨z,us,0,r,Ar _ rfl⟩
end
abbrev Sp:=List V->Hp->VK->XK->Prop
abbrev CXT:=List Env->Hp->Shared->XK->Value->Shared->Prop
structure aG8 (P:Program) (w:World) (K:Ac) (mg:Str->Option Value) (base:Heap) (A:Around) (outer:List Env) (s:Shared) (H:Hp):Prop where
 frames:A.frames=some outer
 mod:Mod K mg base
 bs:∀b o,base.get? b=some o->s.heap.get? b=some o/\H b=none
 bsz:base.objs.size<=s.heap.objs.size
 funs:s.heap.FunFrames base outer
 frf:∀b∈frs outer,H b=none
 hok:HOk P w H s.heap
 bare:AllBare s.gens
def CE (outer:List Env) (P:Program) (w:World) (H:Hp) (s:Shared) (Q:VK) (u:Value) (s':Shared):Prop:=
 ∃v H',s'.os=s.os/\AllBare s'.gens/\Un (frs outer) [] H H' s.heap s'.heap/\HOk P w H' s'.heap/\RelV v u/\Q v H'
def CR (CX:CXT) (outer:List Env) (P:Program) (w:World) (H:Hp) (s:Shared) (Q:VK) (E:XK) (r:Result) (s':Shared):Prop:=
 match r with
 | .ok (.ret u)=>CE outer P w H s Q u s'
 | .ok _=>False
 | .error e=>CX outer H s E e s'
structure bB (P:Program) (w:World) (K:Ac) (mg:Str->Option Value) (base:Heap) (CX:CXT) (k:Nat) (f:Addr) (fd:FuncData) (ps:List Str) (sp:Sp):Prop where
 len:∀vs H Q E,sp vs H Q E->vs.length=ps.length
 run:∀(A:Around) (outer:List Env) (s:Shared) (H:Hp) (args:Args) (us:List Value) (vs:List V) (Q:VK) (E:XK),dH k A->aG8 P w K mg base A outer s H->BindsTo s fd args (ps.zip us)->Vals vs us->sp vs H Q E->
  codeAny (model P w) A (.call (.ref f) args) (CR CX outer P w H s Q E) s
def bB.mono {P:Program} {w:World} {K:Ac} {CX:CXT} {j k:Nat} {f:Addr} {sp:Sp} (F:bB P w K mg base CX j f fd ps sp) (h:j<=k):
  bB P w K mg base CX k f fd ps sp:=⟨F.len,λA outer s H args us vs Q E hr=>F.run A outer s H args us vs Q E (hr.mono h)⟩
def bB.imp {P:Program} {w:World} {K:Ac} {CX:CXT} {f:Addr} {sp sp':Sp} (F:bB P w K mg base CX k f fd ps sp)
  (h:∀vs H Q E,sp' vs H Q E->sp vs H Q E):bB P w K mg base CX k f fd ps sp':=
 ⟨λvs H Q E q=>F.len vs H Q E (h _ _ _ _ q),λA outer s H args us vs Q E hr he hb hv hs=>F.run A outer s H args us vs Q E hr he hb hv (h _ _ _ _ hs)⟩
def aG8.make {P:Program} {w:World} {K:Ac} {A:Around} {outer:List Env} {s:Shared} {H:Hp} (e:aG8 P w K mg base A outer s H) (C:Addr) (us:List Value) (kw:List (Str×Value)):
  aG8 P w K mg base (A.under (.builtin "type.__call__" ⟨.ref C::us,kw⟩)) outer s H:=⟨by first|exact e.frames|(simpa [Nm,Code.envs,Oh,pushEnvs]using e.frames),e.mod,e.bs,e.bsz,e.funs,e.frf,e.hok,e.bare⟩
section
variable {X:Cx} {pins:List (Addr×Obj)} {σ:St} {H:Hp} {s s':Shared}
def Inv.env0 (I:Inv X pins σ H s):aG8 X.prog X.w X.K X.mg X.base X.A X.stack s H:=
 ⟨I.ok.frames,I.ok.mod,I.bs,Cp I.ok.bsz I.sz,I.stack,I.stkFree,I.hok,I.bare⟩
def Inv.after {Q:VK} (I:Inv X pins σ H s) (h:CE X.stack X.prog X.w H s Q u s'):EP X pins σ Q u s':=by
 obtain⟨v,H',os,bare,un,hok,r,q⟩:=h;obtain⟨hh,g,d,t,os'⟩:=s';obtain rfl:os'=s.os:=os;exact⟨v,H',I.call (h':=hh) (g':=g) (d':=d) (t':=t) (ch:=[]) un hok bare (λb z=>absurd z (by simp)),r,q⟩
end
def aTb (sp:Sp) (dvs:List V) (E:XK) (t:TA):TE:=λσ H Q=>t σ H λvs H1=>sp (vs++dvs) H1 Q E
def aS8 (C:Addr) (sp:Sp) (dvs:List V) (E:XK) (t:TA):TE:=λσ H Q=>t σ H λvs H1=>∀x dx,H1 x=none->H1 dx=none->dx≠x->
 sp (.ref x::(vs++dvs)) (upd (upd H1 dx (.own x)) x (.ins C dx [])) (λv H2=>v= .non/\Q (.ref x) H2) E
def Binds (K:Ac) (fd:FuncData) (ps:List Str) (ds:List Value):Prop:=
 ∀(s:Shared) (us:List Value),K.In s.heap->(us++ds).length=ps.length->BindsTo s fd ⟨us,[]⟩ (ps.zip (us++ds))
def Binds.all {K:Ac} (h:∀us:List Value,us.length=ps.length->bindArgs fd ⟨us,[]⟩=pure (ps.zip us)):Binds K fd ps []:=λs us _ hl=>by
 rw [Bg]at hl⊢;exact .of_eq (h us hl)
def pH (CX:CXT) (X:Cx) (E:XK):Prop:=∀(pins:List (Addr×Obj)) (σ:St) (H:Hp) (s:Shared) (e:Value) (s':Shared),Inv X pins σ H s->CX X.stack H s E e s'->X.xe e s'
section
variable {X:Cx} {CX:CXT} {k:Nat} {f C:Addr} {fd:FuncData} {ps:List Str} {sp:Sp} {dvs:List V} {ds:List Value} {E:XK} {x m:Str} {p pos apos:Pos} {e o:Expr} {es:List Expr} {ta:TE} {t:TA}
def aHb {pins:List (Addr×Obj)} {σ:St} {H:Hp} {s:Shared} {Q:VK} {vs:List V} (F:bB X.prog X.w X.K X.mg X.base CX k f fd ps sp) (hr:dH k X.A) (hb:Binds X.K fd ps ds) (hd:Vals dvs ds) (hx:pH CX X E)
  (I:Inv X pins σ H s) (r:Vals vs us) (h:sp (vs++dvs) H Q E):wpAny (model X.prog X.w) X.A (call (.ref f) us) (EP X pins σ Q) X.xe s:=by
 have r2:Vals (vs++dvs) (us++ds):=r.append hd;have hl:(us++ds).length=ps.length:=by rw [<-r2.length];exact F.len _ _ _ _ h
 refine Pd (Hl (F.run X.A X.stack s H ⟨us,[]⟩ (us++ds) (vs++dvs) Q E hr I.env0 (hb s us I.kIn hl) r2 h) λr s' hq=>?_);cases r with
 |error e=>exact hx pins σ H s e s' I hq
 |ok fl=>
  cases fl with
  |ret u=>exact I.after hq
  |next=>exact Et hq
  |brk=>exact Et hq
  |cont=>exact Et hq
def aRt (F:bB X.prog X.w X.K X.mg X.base CX k f fd ps sp) (hr:dH k X.A) (hg:Gl X x) (hm:X.mg x=some (.ref f)) (hk:Fs X.K (.ref f)=true) (hb:Binds X.K fd ps ds) (hd:Vals dvs ds) (hx:pH CX X E)
  (ha:PA X (e::es) t) (hdb:(x==("__debug__":Str))=false:=by decide) (he:starEach (e::es) X.env=(false,eval e X.env)::starEach es X.env:=by rfl) (hpl:(backTo pos (starEach es X.env)).any (·.1)=false:=by rfl):
  PE X (.Call (.Name x p) (e::es) [] pos) (aTb sp dvs E t):=by
 intro pins s σ H Q I h;refine Gs (aD5 I hg hm ?_ hdb);refine Jq (h₀:=X.base) I.ok.mod.kin hk (thn (ha pos pins s σ H _ I h) λus s1 ⟨vs,H1,I1,r,q⟩=>⟨I1.kIn,?_⟩) he hpl;exact aHb F hr hb hd hx I1 r q
structure Mk (K:Ac) (C f:Addr):Prop where
 makes:Kr K C=true
 init:Di K (.ref C) "__init__"=some (some (.ref f))
 fn:Na K (.ref f)=true
 kp:Fs K (.ref C)=true
def aOc {pins:List (Addr×Obj)} {σ:St} {H:Hp} {s:Shared} {Q:VK} {vs:List V} (M:Mk X.K C f) (F:bB X.prog X.w X.K X.mg X.base CX k f fd ps sp) (hr:dH (k+1) X.A) (hb:Binds X.K fd ps ds) (hd:Vals dvs ds)
  (hx:pH CX X E) (I:Inv X pins σ H s) (r:Vals vs us)
  (h:∀x dx,H x=none->H dx=none->dx≠x->sp (.ref x::(vs++dvs)) (upd (upd H dx (.own x)) x (.ins C dx [])) (λv H2=>v= .non/\Q (.ref x) H2) E):
  wpAny (model X.prog X.w) X.A (call (.ref C) us) (EP X pins σ Q) X.xe s:=by
 have hq:=h (s.heap.objs.size+1) s.heap.objs.size (I.hok.fresh (Gd _)) (I.hok.fresh (Am _)) (Ax (Ed _));have I2:=Inv.made (C:=C) I;have r2:Vals (V.ref (s.heap.objs.size+1)::(vs++dvs)) (An (s.heap.objs.size+1)::(us++ds)):= .cons rfl (r.append hd);have hl:(An (s.heap.objs.size+1)::us++ds).length=ps.length:=by
  have e:=r2.length;rw [F.len _ _ _ _ hq]at e;exact e.symm
 refine Pd (aO4 (f:=f) I.kIn M.makes M.init (beq_iff_eq.mp M.fn) (Hl (F.run _ X.stack _ _ ⟨An (s.heap.objs.size+1)::us,[]⟩ (An (s.heap.objs.size+1)::(us++ds)) _ _ E (hr.make C us [])
  (I2.env0.make C us []) (hb _ (An (s.heap.objs.size+1)::us) I2.kIn hl) r2 hq) λr s' hq'=>?_))
 cases r with
 |error e=>exact hx pins σ _ _ e s' I2 hq'
 |ok fl=>
  cases fl with
  |ret u=>
   obtain⟨v,H',I3,rv,ev,q3⟩:=I2.after hq';subst ev;exact⟨rv,⟨V.ref (s.heap.objs.size+1),H',I3,rfl,q3⟩⟩
  |next=>exact Et hq'
  |brk=>exact Et hq'
  |cont=>exact Et hq'
def aIu (M:Mk X.K C f) (F:bB X.prog X.w X.K X.mg X.base CX k f fd ps sp) (hr:dH (k+1) X.A) (hg:Gl X x) (hm:X.mg x=some (.ref C)) (hb:Binds X.K fd ps ds) (hd:Vals dvs ds) (hx:pH CX X E)
  (ha:PA X (e::es) t) (hdb:(x==("__debug__":Str))=false:=by decide) (he:starEach (e::es) X.env=(false,eval e X.env)::starEach es X.env:=by rfl) (hpl:(backTo pos (starEach es X.env)).any (·.1)=false:=by rfl):
  PE X (.Call (.Name x p) (e::es) [] pos) (aS8 C sp dvs E t):=by
 intro pins s σ H Q I h;refine Gs (aD5 I hg hm ?_ hdb);refine Jq (h₀:=X.base) I.ok.mod.kin M.kp (thn (ha pos pins s σ H _ I h) λus s1 ⟨vs,H1,I1,r,q⟩=>⟨I1.kIn,?_⟩) he hpl;exact aOc M F hr hb hd hx I1 r q
end
def PK (X:Cx) (kws:List Keyword) (t:TA):Prop:=
 ∀(pos:Pos) (pins:List (Addr×Obj)) (s:Shared) (σ:St) (H:Hp) (Q:List V->Hp->Prop),Inv X pins σ H s->t σ H Q->wpAny (model X.prog X.w) X.A (evalAll ((backToKw pos (keywordEach kws X.env)).map (·.2))) (AP X pins σ Q) X.xe s
section
variable {X:Cx} {CX:CXT} {k:Nat} {f C:Addr} {fd:FuncData} {ps ks:List Str} {sp:Sp} {E:XK} {x m:Str} {p pos apos kpos:Pos} {e o:Expr} {es:List Expr} {kws:List Keyword} {te ta:TE} {t tk:TA} {nm:Option Str}
def aVf:PK X [] aKi:=λ_ _ _ _ H Q I h=>wpAny_evalAll_nil ⟨[],H,I,.nil,h⟩
def aRp (ha:PE X e te) (hr:PK X kws t):PK X (⟨nm,e,kpos⟩::kws) (aEm te t):=by
 intro pos pins s σ H Q I h;show wpAny _ _ (evalAll ((do let v<-eval e X.env;standAt pos;pure v)::(backToKw pos (keywordEach kws X.env)).map (·.2))) _ _ s;refine wpAny_evalAll_cons (Aa (thn (ha pins s σ H _ I h) λu s1 ⟨x,H1,I1,r1,q1⟩=>Aa (Jf (Af ?_))));exact thn (hr pos pins s1 σ H1 _ I1 q1) λus s2 ⟨xs,H2,I2,r2,q2⟩=>⟨x::xs,H2,I2,.cons r1 r2,q2⟩
variable {g:List Value->List Value->List Value} {gV:List V->List V->List V}
end
structure aL (N P:List Str) (sc:Scope):Prop where
 kind:sc.kind= .function
 co:sc.isCoroutine=false
 gen:sc.isGenerator=false
 nd:N.Nodup
 pre:N.take P.length=P
 par:∀x∈P,sc.names.lookup x=some .local∨sc.names.lookup x=some .cell
 nofree:∀y∈sc.names,y.2≠ .free
theorem aCa {kindOf:Str->Option NameKind} {x:Str}:∀{binds:List (Str×Value)} {m:Str->Option Value},(∀v,(x,v)∉binds)->bindL kindOf binds m x=m x
 | [],_,_=>rfl
 |(n,v)::r,m,h=>by
  unfold bindL;rw [aCa λw hw=>h w (Ad _ hw)];split
  ·have:x≠n:=by rintro rfl;exact h v Ae
   simp [this]
  ·rfl
theorem aBt {kindOf:Str->Option NameKind} {x:Str}:∀{binds:List (Str×Value)} {m:Str->Option Value},(∀v,(x,v)∉binds)->bindC kindOf binds m x=m x
 | [],_,_=>rfl
 |(n,v)::r,m,h=>by
  unfold bindC;rw [aBt λw hw=>h w (Ad _ hw)];split
  ·rfl
  ·have:x≠n:=by rintro rfl;exact h v Ae
   simp [this]
theorem aB5 {kindOf:Str->Option NameKind} {x:Str} {v:Value}:∀{P:List Str} {vs:List Value} {i:Nat} {m:Str->Option Value},P.Nodup->P[i]? =some x->vs[i]? =some v->kindOf x=some .local->
  bindL kindOf (P.zip vs) m x=some v
 | [],_,_,_,_,h,_,_=>by simp at h
 |_::_,[],_,_,_,_,h,_=>by simp at h
 |p::P,w::vs,0,m,nd,h1,h2,hk=>by
  simp at h1 h2;subst h1;subst h2;show bindL kindOf ((p,w)::P.zip vs) m p=_;unfold bindL;rw [aCa λv hv=>(List.nodup_cons.mp nd).1 (Ho hv).1,if_pos hk];simp
 |p::P,w::vs,i+1,m,nd,h1,h2,hk=>by
  show bindL kindOf ((p,w)::P.zip vs) m x=_;unfold bindL;exact aB5 (i:=i) (List.nodup_cons.mp nd).2 (by simpa using h1) (by simpa using h2) hk
theorem aB7 {kindOf:Str->Option NameKind} {x:Str} {v:Value}:∀{P:List Str} {vs:List Value} {i:Nat} {m:Str->Option Value},P.Nodup->P[i]? =some x->vs[i]? =some v->kindOf x≠some .local->
  bindC kindOf (P.zip vs) m x=some v
 | [],_,_,_,_,h,_,_=>by simp at h
 |_::_,[],_,_,_,_,h,_=>by simp at h
 |p::P,w::vs,0,m,nd,h1,h2,hk=>by
  simp at h1 h2;subst h1;subst h2;show bindC kindOf ((p,w)::P.zip vs) m p=_;unfold bindC;rw [aBt λv hv=>(List.nodup_cons.mp nd).1 (Ho hv).1,if_neg hk];simp
 |p::P,w::vs,i+1,m,nd,h1,h2,hk=>by
  show bindC kindOf ((p,w)::P.zip vs) m x=_;unfold bindC;exact aB7 (i:=i) (List.nodup_cons.mp nd).2 (by simpa using h1) (by simpa using h2) hk
def start (N:List Str) (vs:List V):St:=vs.map some++Jr (N.length-vs.length) none
def aF8 (CX:CXT) (P:Program) (w:World) (K:Ac) (mg:Str->Option Value) (base:Heap) (N:List Str) (qual:Str) (scope:Scope) (f:Addr) (cd:Value) (A:Around) (outer:List Env) (s:Shared) (H:Hp) (E:XK):Cx where
 prog:=P
 w:=w
 K:=K
 mg:=mg
 base:=base
 A:=A.deeper (envOfC qual scope s.heap.objs.size f cd)
 N:=N
 s₀:=s
 H₀:=H
 env:=envOfC qual scope s.heap.objs.size f cd
 outer:=outer
 stack:=envOfC qual scope s.heap.objs.size f cd::outer
 ex:=[]
 calm:=true
 fn:=λ_=>true
 pn:=[]
 xe:=λe s'=>wpAny (model P w) (A.deeper (envOfC qual scope s.heap.objs.size f cd)) (leaving (envOfC qual scope s.heap.objs.size f cd) e) (λ_ s''=>CX outer H s E e s'') (λe' s''=>CX outer H s E e' s'') s'
def bO {sc:Scope} {n:Nat} {x:Str} (h:sc.names.lookup x=some .cell):∃c,(cellsFrom n sc.names []).lookup x=some c:=by
 have q:=Mm sc.names n [] (.inl h);exact Option.isSome_iff_exists.mp q
def aKl {CX:CXT} {P:Program} {w:World} {K:Ac} {N ps:List Str} {qual:Str} {scope:Scope} {f:Addr} {cd:Value} {A:Around} {outer:List Env} {s s1:Shared} {H:Hp} {E:XK} {vs:List V}
  (S:aL N ps scope) (hd:A.handled=none) (e0:aG8 P w K mg base A outer s H) (hl:vs.length=ps.length) (r:Vals vs us)
  (x:InCallC s s.heap.objs.size (bindL (envOfC qual scope s.heap.objs.size f cd).kindOf (ps.zip us) λ_=>none) (cellsFrom (s.heap.objs.size+1) scope.names []) (bindC (envOfC qual scope s.heap.objs.size f cd).kindOf (ps.zip us) λ_=>none) s1):
  Inv (aF8 CX P w K mg base N qual scope f cd A outer s H E) [] (start N vs) H s1:=by
 have hpl:ps.length<=N.length:=by have:=congrArg Cg S.pre;rw [Cd]at this;omega
 obtain⟨h1,tk,rfl,hk⟩:=x.done;have noA:∀b:Addr,b∉(aF8 CX P w K mg base N qual scope f cd A outer s H E).ex:=λb z=>absurd (show b∈([]:List Addr)from z) (by simp);refine⟨⟨e0.mod,S.kind,rfl,rfl,Am _,λy z c h1 h2=>?_,λy hy=>?_,λy c _ h=>?_,λ_=>hd,Around.frames_deeper e0.frames,.inr ⟨rfl,rfl⟩,λb z=>absurd z (noA b),e0.bs,e0.bsz,λb _ _=>noA b,λb z=>absurd z (noA b),e0.funs,e0.frf⟩,
  rfl,e0.bare,Un.kept hk,⟨_,x.toInCall.ns,λi y v h1 h2 h3=>?_⟩,λy c h=>⟨_,x.cell y c h⟩,e0.hok.fresh (Am _),λy c h=>?_,λp hp=>absurd (show p∈([]:List (Addr×Obj))from hp) (by simp),e0.hok.kept hk,?_⟩
 ·exact name_of_addr x.apart (Dd h1) (Dd h2)
 ·have hy:scope.names.lookup y=some .cell∨scope.names.lookup y=some .free:=hy;rcases hy with hy|hy
  ·exact bO hy
  ·exact absurd rfl (S.nofree _ (Dd hy))
 ·exact Eh (x.above y c (Dd h))
 ·have hi:i<vs.length:=by
   unfold start at h2;by_cases hi:i<vs.length
   ·exact hi
   ·rw [Cu (by simpa using hi)]at h2;rw [Ee]at h2;split at h2<;>cases h2
  have ha:vs[i]? =some v:=by
   unfold start at h2;rw [Dv (by simpa using hi),Az]at h2;cases e:vs[i]? with
   |none=>rw [e]at h2;cases h2
   |some a=>rw [e]at h2;cases h2;rfl
  obtain⟨u,hu,rv⟩:=r.get ha;have hp:ps[i]? =some y:=by
   rw [<-S.pre,Nb (by omega)];exact h1
  have ndP:ps.Nodup:=by rw [<-S.pre];exact S.nd.sublist (Qh _ _)
  refine⟨u,rv,?_⟩;rcases S.par y (Bn hp)with k|k
  ·exact .inl ⟨k,aB5 ndP hp hu k⟩
  ·obtain⟨c,e⟩:=bO (n:=s.heap.objs.size+1) k;refine .inr ⟨.inl k,c,e,?_⟩;have q:=x.cell y c e;rw [aB7 ndP hp hu (by show scope.names.lookup y≠_;rw [k];decide)]at q;exact q
 ·exact e0.hok.fresh (Eh (x.above y c (Dd h)))
 ·unfold start;show _=N.length;rw [Ag,Ab,Ep];omega
def aX0 {CX:CXT} {P:Program} {w:World} {K:Ac} {f:Addr} {name qual:Str} {params:Arguments} {scope:Scope} {dV kV doc pm cdv ct oc:Value} {an od:Option Addr}
  {osl:Array (Option Value)} {N ps:List Str} {sp:Sp} (lk:K.lookup f=some ⟨oc,od,.func (Em name qual params body scope dV kV doc pm an cdv ct),osl⟩) (hcd:Lh K cdv qual=true) (S:aL N ps scope)
  (len:∀vs H Q E,sp vs H Q E->vs.length=ps.length)
  (hbody:∀(A:Around) (outer:List Env) (s:Shared) (H:Hp) (vs:List V) (Q:VK) (E:XK),dH k (A.deeper (envOfC qual scope s.heap.objs.size f cdv))->sp vs H Q E->
   ∃t,PSs (aF8 CX P w K mg base N qual scope f cdv A outer s H E) body t/\t {nx:=λ_ H'=>Q .non H',rt:=Q} (start N vs) H):
  bB P w K mg base CX (k+1) f (Em name qual params body scope dV kV doc pm an cdv ct) ps sp:=by
 refine⟨len,λA outer s H args us vs Q E hr e0 hb r hsp=>?_⟩;have hl:=len _ _ _ _ hsp;have KX:K.In s.heap:=e0.mod.kin.keeps λb o e=>(e0.bs b o e).1;have lim:s.heap.NoLimit:=e0.mod.nolimit.keeps λb o e=>(e0.bs b o e).1;have hkind:∀y∈ps.zip us,scope.names.lookup y.1=some .local∨(scope.names.lookup y.1=some .cell/\((cellsFrom (s.heap.objs.size+1) scope.names []).lookup y.1).isSome=true):=λ⟨n,v⟩ hy=>by
  rcases S.par n (Ho hy).1 with q|q
  ·exact .inl q
  ·exact .inr ⟨q,Mm _ _ _ (.inl q)⟩
 refine codeAny_call_function hr.depth (KX _ _ lk) rfl S.co S.gen rfl (PySem.W.codeRec_of KX hcd) (hb _ _ _ _ ?_);refine wpAny_newFunctionEnv_cells S.kind hkind λenv he s1 x=>?_;subst he;refine⟨lim.keeps x.toInCall.keep,codeAny_func ?_⟩;obtain⟨t,ht,hq⟩:=hbody A outer s H vs Q E (hr.deeper _) hsp;have I:Inv (aF8 CX P w K mg base N qual scope f cdv A outer s H E) [] (start N vs) H s1:=aKl S hr.hd e0 hl r x;refine Cq (ht [] s1 (start N vs) H _ I hq) (λfl s' hs=>?_) λe s' hs=>hs;have fin:∀{σ':St} {H':Hp} {v:V} {u:Value},Inv (aF8 CX P w K mg base N qual scope f cdv A outer s H E) [] σ' H' s'->RelV v u->Q v H'->CE outer P w H s Q u s':=
  λ{σ' H' v u} J rv q=>⟨v,H',J.os,J.bare,J.base,J.hok,rv,q⟩
 cases fl with
 |ret u=>
  obtain⟨v,σ',H',J,rv,q⟩:=hs;exact fin J rv q
 |next=>
  obtain⟨σ',H',J,q⟩:=hs;exact fin (v:=V.non) (u:=Ce) J rfl q
 |brk=>
  obtain⟨_,_,_,q⟩:=hs;exact Et q
 |cont=>
  obtain⟨_,_,_,q⟩:=hs;exact Et q
section
variable {X:Cx} {x:Str} {p pos:Pos} {e:Expr} {es:List Expr} {t:TA} {id T:String} {r:List V->Hp->VK->Prop}
def tCB (r:List V->Hp->VK->Prop) (t:TA):TE:=λσ H Q=>t σ H λvs H1=>r vs H1 Q
def gR (hc:eF X (.builtin id) r) (hg:Gl X x) (hm:X.mg x=none) (hv:bootBuiltins x=some (.builtin id)) (ha:PA X (e::es) t) (hn:x≠"__name__":=by decide) (hdb:(x==("__debug__":Str))=false:=by decide)
  (he:starEach (e::es) X.env=(false,eval e X.env)::starEach es X.env:=by rfl) (hpl:(backTo pos (starEach es X.env)).any (·.1)=false:=by rfl):PE X (.Call (.Name x p) (e::es) [] pos) (tCB r t):=by
 intro pins s σ H Q I h;refine Gs (uK I hg hm hv ?_ hn hdb);exact Uz (thn (ha pos pins s σ H _ I h) λus s1 ⟨vs,H1,I1,r1,q1⟩=>hc pins s1 σ H1 vs us Q I1 r1 q1) he hpl
def lX (hc:eF X (.type T) r) (hg:Gl X x) (hm:X.mg x=none) (hv:bootBuiltins x=some (.type T)) (ha:PA X (e::es) t) (hn:x≠"__name__":=by decide) (hdb:(x==("__debug__":Str))=false:=by decide)
  (he:starEach (e::es) X.env=(false,eval e X.env)::starEach es X.env:=by rfl) (hpl:(backTo pos (starEach es X.env)).any (·.1)=false:=by rfl):PE X (.Call (.Name x p) (e::es) [] pos) (tCB r t):=by
 intro pins s σ H Q I h;refine Gs (uK I hg hm hv ?_ hn hdb);exact Ex (thn (ha pos pins s σ H _ I h) λus s1 ⟨vs,H1,I1,r1,q1⟩=>hc pins s1 σ H1 vs us Q I1 r1 q1) he hpl
end
end L2
namespace HT
open PySem PyProof.Rows
section
open PySem.SeqAt
open PySem.AutoSeq1 (wpAny_loadPart')
open PySem.MeetsSeq PySem.MeetsSeq2 PySem.MeetsSeq3
end
variable {prog:Program} {w:World} {A:Around} {E:Value->Shared->Prop} {s:Shared}
def aRw {t b:Addr} {vs ws:List Value} {Q:Value->Shared->Prop} (ht:IsTup s.heap t vs.toArray) (hb:IsTup s.heap b ws.toArray) (hv:vs≠[])
  (h1:ws=[]->Q (.ref t) s) (h2:ws≠[]->Q (.ref s.heap.objs.size) {s with heap:=s.heap.push {cls:= .type "tuple",data:= .seq (vs++ws).toArray}})
  (hsz:vs.length+ws.length<=sizeLine):wpAny (model prog w) A (binaryOp .Add (.ref t) (.ref b)) Q E s:=by
 obtain⟨⟨cls,dd,data,sl⟩,ho,hc,n,hd⟩:=id ht;obtain⟨⟨cls2,dd2,data2,sl2⟩,ho2,hc2,n2,hd2⟩:=id hb;simp only at hc hd hc2 hd2;subst hc hd hc2 hd2;have e:vs.toArray++ws.toArray=(vs++ws).toArray:=by simp
 by_cases hw:ws=[]
 ·exact Qp ⟨_,ho,rfl⟩ ⟨_,ho2,rfl⟩ Mv Pl Ii Ic (Ht _ _)
   (tuple_addW1 t b vs.toArray ws.toArray n n2 dd dd2 sl sl2 (by simpa using hv) (by simp [hw])) ⟨ho,ho2,h1 hw⟩
 ·refine Qp ⟨_,ho,rfl⟩ ⟨_,ho2,rfl⟩ Mv Pl Ii Ic (Ht _ _)
   (tuple_addW2 t b vs.toArray ws.toArray n n2 dd dd2 sl sl2 (by simpa using hv) (by simpa using hw) (by rw [Al,Al];exact hsz)) ⟨ho,ho2,?_⟩
  rw [e];exact h2 hw
end HT
namespace L2
variable {pins:List (Addr×Obj)} {its its':List Value} {s:Shared} {n:Nat}
open PySem PySem.Spec PyProof.Rows
abbrev TO:=St->Hp->(Option Int->Hp->Prop)->Prop
def PO (X:Cx) (e:Option Expr) (t:TO):Prop:=
 ∀(pins:List (Addr×Obj)) (s:Shared) (σ:St) (H:Hp) (Q:Option Int->Hp->Prop),Inv X pins σ H s->t σ H Q->
  wpAny (model X.prog X.w) X.A (evalPart e X.env) (λu s'=>∃o H',Inv X pins σ H' s'/\IsPart u o/\Q o H') X.xe s
def aXc (t:TE):TO:=λσ H Q=>t σ H λx H1=>∃i,x= .int i/\Q (some i) H1
def intsAre_of {ns:List Int}:∀{us:List Value},Vals (ns.map V.int) us->IntsAre us ns:=by
 induction ns with
 |nil=>intro us r;rw [Dn]at r;cases r;exact .nil
 |cons n ns ih=>
  intro us r;rw [Aw]at r;cases r with
  |cons r1 r2=>
   obtain⟨t,e⟩:=r1;subst e;exact .cons n t (ih r2)
section
variable {X:Cx} {e:Expr} {te:TE} {lo hi:Option Expr} {tl th:TO} {pos p2:Pos}
def yP (h:PE X e te):PO X (some e) (aXc te):=by
 intro pins s σ H Q I hw;rw [evalPart_some];refine thn (h pins s σ H _ I hw) λu s1 ⟨x,H1,I1,r1,q1⟩=>?_;obtain⟨i,rfl,q⟩:=q1;obtain⟨t,rfl⟩:=r1;exact⟨some i,H1,I1,.int i t,q⟩
def SlR (X:Cx) (r:V->Option Int->Option Int->Hp->VK->Prop):Prop:=
 ∀(pins:List (Addr×Obj)) (s:Shared) (σ:St) (H:Hp) (x:V) (v vl vu:Value) (lo hi:Option Int) (sl:Addr) (Q:VK),Inv X pins σ H s->RelV x v->s.heap.IsSliceOf sl vl vu .none->IsPart vl lo->IsPart vu hi->r x lo hi H Q->
  ∃T id,typeLookup (.type T) "__getitem__"=pure (some (.builtin id))/\s.TypeIs v T/\wpAny (model X.prog X.w) X.A (getItem v (.ref sl)) (EP X pins σ Q) X.xe s
def tSl (r:V->Option Int->Option Int->Hp->VK->Prop) (te:TE) (tl th:TO):TE:=λσ H Q=>te σ H λx H1=>tl σ H1 λl H2=>th σ H2 λu H3=>r x l u H3 Q
def aEt {r:V->Option Int->Option Int->Hp->VK->Prop} (hr:SlR X r) (he:PE X e te) (hl:PO X lo tl) (hu:PO X hi th):PE X (.Subscript e (.Slice lo hi none p2) pos) (tSl r te tl th):=by
 intro pins s σ H Q I h;refine Sy (thn (he pins s σ H _ I h) λv s1 ⟨x,H1,I1,r1,q1⟩=>?_);refine wpAny_Slice (thn (hl pins s1 σ H1 _ I1 q1) λvl s2 ⟨l,H2,I2,pl,q2⟩=>thn (hu pins s2 σ H2 _ I2 q2) λvu s3 ⟨u,H3,I3,pu,q3⟩=>?_);rw [evalPart_none];refine Af ?_;have I4:Inv X pins σ H3 {s3 with heap:=s3.heap.push {cls:= .type "slice",data:= .fields #[vl,vu,.none]}}:=I3.kept (t':=s3.toks) λb ob q=>Ai _ q;obtain⟨T,id,hT,ht,hg⟩:=hr pins {s3 with heap:=s3.heap.push {cls:= .type "slice",data:= .fields #[vl,vu,.none]}} σ H3 x v vl vu l u s3.heap.objs.size Q I4 r1 (Si ..) pl pu q3;show wpAny (model X.prog X.w) X.A (subscriptTail e (.Slice lo hi none p2) v (.ref s3.heap.objs.size)) (EP X pins σ Q) X.xe {s3 with heap:=s3.heap.push {cls:= .type "slice",data:= .fields #[vl,vu,.none]}};exact tail_any (ops:=[.ref s3.heap.objs.size,v]) ht hT hg (by with_unfolding_all rfl)
inductive aOn (K:Ac) (x:V) (y:V) (H:Hp) (Q:VK):Prop
 |mk (a b xs ys:_) (q0_:x= .ref a) (q1_:y= .ref b) (q2_:SqT K H a xs) (q3_:SqT K H b ys) (q4_:xs≠[]) (q5_:xs.length+ys.length<=sizeLine) (q6_:(ys=[]->Q (.ref a) H)) (q7_:(ys≠[]->∀p,H p=none->Q (.ref p) (upd H p (.tup (xs++ys))))):aOn K x y H Q
def aTi (K:Ac):R2:=λx y H Q=>aOn K x y H Q
def Vals.nil_iff {xs:List V} {us:List Value} (r:Vals xs us):us=[]↔xs=[]:=by
 cases r with
 |nil=>simp
 |cons _ _=>simp
def aRs:OpR X (binaryOp .Add) (aTi X.K):=by
 intro pins s σ H x y v u Q I rx ry h;obtain⟨a,b,xs,ys,rfl,rfl,ha,hb,hx,hz,q1,q2⟩:=h;cases rx;cases ry;obtain⟨its,r1,p1,_⟩:=I.tuple ha;obtain⟨its2,r2,p2,_⟩:=I.tuple hb;refine HT.aRw p1 p2 (λz=>hx (r1.nil_iff.mp z)) (λz=>⟨.ref a,H,I,rfl,q1 (r2.nil_iff.mp z)⟩) (λz=>?_) (by rw [<-r1.length, <-r2.length];exact hz);refine⟨.ref s.heap.objs.size,_,I.laid (t':=s.toks) (o:= .tup (xs++ys)) (λb ob q=>Ai _ q) (Am _) ?_,rfl,q2 (λw=>z (r2.nil_iff.mpr w)) _ (I.hok.fresh (Am _))⟩;exact⟨by rw [Ag];exact hz,_,r1.append r2,Vv _ _⟩
end
def ixN (n:Nat) (i:Int):Option Nat:=if 0<=i then(if i<n then some i.toNat else none)else if-(n:Int)<=i then some (i+n).toNat else none
def atI {α:Type} (xs:List α) (i:Int):Option α:=(ixN xs.length i).bind λj=>xs[j]?
def aIz {i:Int} {j:Nat} (h:ixN n i=some j):seqIndex? i n=some j/\j<n/\ -(n:Int)<=i/\i<n:=by
 unfold ixN at h;by_cases h0:0<=i
 ·rw [if_pos h0]at h;by_cases h1:i<n
  ·rw [if_pos h1]at h;have e:i.toNat=j:=Bl h;exact⟨by rw [Rg h0 h1,e],by omega,by omega,h1⟩
  ·rw [if_neg h1]at h;cases h
 ·rw [if_neg h0]at h;by_cases h1: -(n:Int)<=i
  ·rw [if_pos h1]at h;have e:(i+n).toNat=j:=Bl h;exact⟨by rw [Qm (by omega) h1,e],by omega,h1,by omega⟩
  ·rw [if_neg h1]at h;cases h
def aDo {α:Type} {xs:List α} {i:Int} {v:α} (h:atI xs i=some v):∃j,seqIndex? i xs.length=some j/\xs[j]? =some v/\j<xs.length/\ -(xs.length:Int)<=i/\i<xs.length:=by
 unfold atI at h;cases e:ixN xs.length i with
 |none=>rw [e]at h;cases h
 |some j=>
  rw [e]at h;obtain⟨h1,h2,h3,h4⟩:=aIz e;exact⟨j,h1,h,h2,h3,h4⟩
def sO {α:Type} {xs:List α} {j:Nat} {v:α} (h:xs[j]? =some v):atI xs (j:Int)=some v:=by
 have hj:j<xs.length:=(List.getElem?_eq_some_iff.mp h).1;have e:ixN xs.length (j:Int)=some j:=by
  unfold ixN;rw [if_pos (by omega),if_pos (by omega)];simp
 unfold atI;rw [e];exact h
def aJv (b:Expr):Prop:=∀o i,subscripted b false o i=operate [o,i] (getItem o i)
def IxR (X:Cx) (r:R2):Prop:=
 ∀(value slice:Expr) (pins:List (Addr×Obj)) (s:Shared) (σ:St) (H:Hp) (x y:V) (v u:Value) (Q:VK),Inv X pins σ H s->RelV x v->RelV y u->r x y H Q->
  subscripted slice false v u=operate [v,u] (getItem v u)->wpAny (model X.prog X.w) X.A (subscriptTail value slice v u) (EP X pins σ Q) X.xe s
def MtR (X:Cx) (id:String) (r:V->List V->Hp->VK->Prop):Prop:=
 ∀(pins:List (Addr×Obj)) (s:Shared) (σ:St) (H:Hp) (x:V) (xs:List V) (v:Value) (us:List Value) (Q:VK),Inv X pins σ H s->RelV x v->Vals xs us->r x xs H Q->
  wpAny (model X.prog X.w) X.A (call (.builtin id) (v::us)) (EP X pins σ Q) X.xe s
def aY6 (K:Ac):List V->Hp->VK->Prop:=λxs H Q=>∃p ys,xs=[.ref p]/\(SqL K H p ys∨SqT K H p ys)/\Q (.int ys.length) H
def aXw (K:Ac):List V->Hp->VK->Prop:=λxs H Q=>∃p ys,xs=[.ref p]/\(SqL K H p ys∨SqT K H p ys)/\∀l,H l=none->Q (.ref l) (upd H l (.lst ys))
section
variable {X:Cx} {a b:Expr} {ta tb:TE} {pos:Pos}
def IxR.or {r r':R2} (h:IxR X r) (h':IxR X r'):IxR X (λx y H Q=>r x y H Q∨r' x y H Q):=by
 intro value slice pins s σ H x y v u Q I rx ry q hs;rcases q with q|q
 ·exact h value slice pins s σ H x y v u Q I rx ry q hs
 ·exact h' value slice pins s σ H x y v u Q I rx ry q hs
def xU {r:R2} (hr:IxR X r) (ha:PE X a ta) (hb:PE X b tb) (hs:aJv b):PE X (.Subscript a b pos) (tOp r ta tb):=by
 intro pins s σ H Q I h;exact Sy (aT7 ha hb I h λv u s2 x y H2 I2 rx ry q=>hr a b pins s2 σ H2 x y v u Q I2 rx ry q (hs _ _))
inductive aSm (K:Ac) (x:V) (y:V) (H:Hp) (Q:VK):Prop
 |mk (p xs i v:_) (q0_:x= .ref p) (q1_:y= .int i) (q2_:SqL K H p xs) (q3_:atI xs i=some v) (q4_:Q v H):aSm K x y H Q
def aUk (K:Ac):R2:=λx y H Q=>aSm K x y H Q
inductive aTp (K:Ac) (x:V) (y:V) (H:Hp) (Q:VK):Prop
 |mk (p xs i v:_) (q0_:x= .ref p) (q1_:y= .int i) (q2_:SqT K H p xs) (q3_:atI xs i=some v) (q4_:Q v H):aTp K x y H Q
def aVy (K:Ac):R2:=λx y H Q=>aTp K x y H Q
inductive aTu (x:V) (y:V) (H:Hp) (Q:VK):Prop
 |mk (z i c:_) (q0_:x= .str z) (q1_:y= .int i) (q2_:z.length<=sizeLine) (q3_:atI z.cps.toList i=some c) (q4_:Q (.str ⟨#[c]⟩) H):aTu x y H Q
def aXf:R2:=λx y H Q=>aTu x y H Q
def nA:IxR X (aUk X.K):=by
 intro value slice pins s σ H x y v u Q I rx ry h hs;obtain⟨p,xs,i,z,rfl,rfl,hq,he,q⟩:=h;cases rx;obtain⟨t,rfl⟩:=ry;obtain⟨its,r,pl,hz⟩:=I.list hq;obtain⟨j,h1,h2,h3,h4,h5⟩:=aDo he;obtain⟨w,ew,rw'⟩:=r.get h2;have hl:=r.length;have hn:=wD;have fin:EP X pins σ Q w s:=⟨z,H,I,rw',q⟩;by_cases h0:0<=i
 ·have hj:i.toNat=j:=by
   rw [Rg h0 h5]at h1;exact Bl h1
  exact item_listR pl.isList h0 (by omega) (by rw [hj];simpa using ew) fin hs
 ·have hj:(i+(its.toArray.size:Int)).toNat=j:=by
   rw [Qm (by omega) h4]at h1;rw [Al, <-hl];exact Bl h1
  exact Qb (x:=w) pl.isList.typeIs slot_list_getitem.lookup
   (wpAny_getItem_list_neg (Q:=λr s'=>r=w/\EP X pins σ Q r s') pl.isList (by omega) (by rw [Al]<;>omega) (by omega) (by rw [hj];simpa using ew) ⟨rfl,fin⟩) hs
def aUv:IxR X (aVy X.K):=by
 intro value slice pins s σ H x y v u Q I rx ry h hs;obtain⟨p,xs,i,z,rfl,rfl,hq,he,q⟩:=h;cases rx;obtain⟨t,rfl⟩:=ry;obtain⟨its,r,pl,hz⟩:=I.tuple hq;obtain⟨j,h1,h2,h3,h4,h5⟩:=aDo he;obtain⟨w,ew,rw'⟩:=r.get h2;have hl:=r.length;have hn:=wD;have fin:EP X pins σ Q w s:=⟨z,H,I,rw',q⟩;exact Qb (x:=w) pl.typeIs slot_tuple_getitem.lookup
  (getItem_tuple (j:=j) (Q:=λr s'=>r=w/\EP X pins σ Q r s') pl (by omega) (by omega) (by rw [Al, <-hl];exact h1) (by simpa using ew) ⟨rfl,fin⟩) hs
def aWg:IxR X aXf:=by
 intro value slice pins s σ H x y v u Q I rx ry h hs;obtain⟨z,i,c,rfl,rfl,hz,he,q⟩:=h;obtain⟨t,rfl⟩:=rx;obtain⟨t',rfl⟩:=ry;obtain⟨j,h1,h2,h3,h4,h5⟩:=aDo he;have hl:z.cps.toList.length=z.length:=by simp [Str.length]
 rw [hl]at h1 h4 h5;have hn:=wD;exact tail_any (Su s z t) slot_str_getitem.lookup (getItem_str (c:=c) (by
  have e1:decide (i< -(2 ^ 63:Int))=false:=decide_eq_false (by omega);have e2:decide (i≥2 ^ 63)=false:=decide_eq_false (by omega);rw [e1,e2,Bool.or_false]) (by rw [h1];simpa using h2) ⟨.str ⟨#[c]⟩,H,I.tok _,⟨_,rfl⟩,q⟩) hs
def rIx (K:Ac):R2:=λx y H Q=>aUk K x y H Q∨aVy K x y H Q∨aXf x y H Q
def bC:IxR X (rIx X.K):=nA.or (aUv.or aWg)
def aIi (its:List Value) (n j:Nat) (u:Value):Ea (·.setIfInBounds j u) {cls:= .type "list",data:= .seq its.toArray n}={cls:= .type "list",data:= .seq (its.set j u).toArray n}:=by
 simp [Ea]
def Inv.lst {pins:List (Addr×Obj)} {σ:St} {H:Hp} {s:Shared} {p:Addr} {xs:List V} (I:Inv X pins σ H s) (h:H p=some (.lst xs)):
  ∃(its:List Value) (n:Nat),Vals xs its/\s.heap.get? p=some {cls:= .type "list",data:= .seq its.toArray n}/\xs.length<=sizeLine:=by
 obtain⟨z,its,n,r,e⟩:=I.hok p _ h;exact⟨its,n,r,e,z⟩
def Inv.lstUpd {σ:St} {H:Hp} {p:Addr} {xs ys:List V} {n n':Nat} {f:Obj->Obj} (I:Inv X pins σ H s) (h:H p=some (.lst xs))
  (ho:s.heap.get? p=some {cls:= .type "list",data:= .seq its.toArray n}) (hf:f {cls:= .type "list",data:= .seq its.toArray n}={cls:= .type "list",data:= .seq its'.toArray n'}) (r:Vals ys its') (hz:ys.length<=sizeLine) (t:Nat):
  Inv X pins σ (upd H p (.lst ys)) {s with heap:=s.heap.update p f,toks:=t}:=by
 have e:(s.heap.update p f).get? p=some {cls:= .type "list",data:= .seq its'.toArray n'}:=by
  rw [Cc f ho (by rw [hf]<;>rfl),hf]
 refine I.write (x:=p) (e:=p) (by rw [h];trivial) (.inl rfl) (λb u hb q=>(Da _ _ (Cy hb)).trans q) ⟨_,e⟩ ?_;exact⟨hz,its',n',r,e⟩
inductive aOj (o:V) (i:V) (v:V) (H:Hp) (Q:(Hp->Prop)):Prop
 |mk (p xs k j:_) (q0_:o= .ref p) (q1_:i= .int k) (q2_:H p=some (.lst xs)) (q3_:ixN xs.length k=some j) (q4_:Q (upd H p (.lst (xs.set j v)))):aOj o i v H Q
def aXi:V->V->V->Hp->(Hp->Prop)->Prop:=λo i v H Q=>aOj o i v H Q
def set_list:aXo X aXi:=by
 intro pins s σ H o i v ov iv u Q I ro ri rv h;obtain⟨p,xs,k,j,rfl,rfl,hp,hj,q⟩:=h;cases ro;obtain⟨t,rfl⟩:=ri;obtain⟨its,n,r,ho,hz⟩:=I.lst hp;obtain⟨h1,h2,h3,h4⟩:=aIz hj;have hl:=r.length;have hn:=wD;have I':Inv X pins σ (upd H p (.lst (xs.set j v))) {s with heap:=s.heap.update p (Ea (·.setIfInBounds j u))}:=
  I.lstUpd hp ho (aIi its n j u) (r.set rv j) (by rw [Cm];exact hz) s.toks
 by_cases h0:0<=k
 ·have hk:k.toNat=j:=by
   rw [Rg h0 h4]at h1;exact Bl h1
  exact PySem.W.ki_setAt ho h0 (by omega) (by rw [Al, <-hl];exact h4) (by rw [hk];exact⟨_,I',q⟩)
 ·have hk:(k+(its.toArray.size:Int)).toNat=j:=by
   rw [Qm (by omega) h3]at h1;rw [Al, <-hl];exact Bl h1
  exact PySem.W.ki_setBack ho (by omega) (by rw [Al, <-hl];exact h3) (by omega) (by rw [hk];exact⟨_,I',q⟩)
def jG:V->Bool
 | .non=>true
 | .bl _=>true
 | .int _=>true
 | .str _=>true
 |_=>false
def eqV:V->V->Bool
 | .non,.non=>true
 | .bl a,.bl b=>a==b
 | .bl a,.int b=>(if a then 1 else 0)==b
 | .int a,.bl b=>a==(if b then 1 else 0)
 | .int a,.int b=>a==b
 | .str a,.str b=>a==b
 |_,_=>false
def aN6 {A:Around} {y x:V} {u v:Value} (ry:RelV y u) (rx:RelV x v) (fy:jG y=true) (fx:jG x=true):Ib A s u v (eqV y x):=by
 cases y with
 |non=>
  cases ry;cases x with
  |non=>cases rx;exact Ke _
  |bl b=>cases rx;exact SeqAt.EqAt.none_bool b
  |int b=>obtain⟨t,rfl⟩:=rx;exact SeqAt.EqAt.none_int b t
  |str b=>obtain⟨t,rfl⟩:=rx;exact SeqAt.EqAt.none_str b t
  |_=>exact absurd (show false=true from fx) Aj
 |bl a=>
  cases ry;cases x with
  |non=>cases rx;exact SeqAt.EqAt.bool_none a
  |bl b=>cases rx;exact SeqAt.EqAt.bool_bool a b
  |int b=>obtain⟨t,rfl⟩:=rx;exact SeqAt.EqAt.bool_int a b t
  |str b=>obtain⟨t,rfl⟩:=rx;exact SeqAt.EqAt.bool_str a b t
  |_=>exact absurd (show false=true from fx) Aj
 |int a=>
  obtain⟨t',rfl⟩:=ry;cases x with
  |non=>cases rx;exact SeqAt.EqAt.int_none a t'
  |bl b=>cases rx;exact SeqAt.EqAt.int_bool a t' b
  |int b=>obtain⟨t,rfl⟩:=rx;exact SeqAt.EqAt.int_int a t' b t
  |str b=>obtain⟨t,rfl⟩:=rx;exact My a t' b t
  |_=>exact absurd (show false=true from fx) Aj
 |str a=>
  obtain⟨t',rfl⟩:=ry;cases x with
  |non=>cases rx;exact SeqAt.EqAt.str_none a t'
  |bl b=>cases rx;exact SeqAt.EqAt.str_bool a t' b
  |int b=>obtain⟨t,rfl⟩:=rx;exact Mw a t' b t
  |str b=>obtain⟨t,rfl⟩:=rx;exact SeqAt.EqAt.str_str a t' b t
  |_=>exact absurd (show false=true from fx) Aj
 |_=>exact absurd (show false=true from fy) Aj
def eqU (x:V) (u:Value):Bool:=match u with
 | .none=>eqV .non x
 | .bool b=>eqV (.bl b) x
 | .int i _=>eqV (.int i) x
 | .str z _=>eqV (.str z) x
 |_=>false
def aL0 {x y:V} {u:Value} (r:RelV y u) (f:jG y=true):eqU x u=eqV y x:=by
 cases y with
 |non=>cases r;rfl
 |bl b=>cases r;rfl
 |int i=>obtain⟨t,rfl⟩:=r;rfl
 |str z=>obtain⟨t,rfl⟩:=r;rfl
 |_=>exact absurd (show false=true from f) Aj
theorem aC0 {x:V}:∀{xs:List V} {us:List Value},Vals xs us->xs.all jG=true->us.any (eqU x)=xs.any λy=>eqV y x
 |_,_,.nil,_=>rfl
 |y::xs,u::us,.cons r t,f=>by
  rw [Kf,Fz]at f;rw [Dw,Dw,aL0 r f.1,aC0 t f.2]
theorem zK {A:Around} {s:Shared} {x:V} {v:Value} (rx:RelV x v) (fx:jG x=true):∀{xs:List V} {us:List Value},Vals xs us->xs.all jG=true->∀u∈us,Ib A s u v (eqU x u)
 |_,_,.nil,_=>λu hu=>by cases hu
 |y::xs,u::us,.cons r t,f=>λu' hu=>by
  rw [Kf,Fz]at f;rcases List.mem_cons.mp hu with rfl|hu
  ·rw [aL0 r f.1];exact aN6 r rx f.1 fx
  ·exact zK rx fx t f.2 u' hu
def inV (x:V) (xs:List V):Bool:=xs.any λy=>eqV y x
inductive aWz (K:Ac) (neg:Bool) (x:V) (y:V) (H:Hp) (Q:VK):Prop
 |mk (p xs:_) (q0_:y= .ref p) (q1_:(SqL K H p xs∨SqT K H p xs)) (q2_:jG x=true) (q3_:xs.all jG=true) (q4_:Q (.bl (if neg then !inV x xs else inV x xs)) H):aWz K neg x y H Q
def rIn (K:Ac) (neg:Bool):R2:=λx y H Q=>aWz K neg x y H Q
def aC3:OpR X (compareOp .NotIn) (rIn X.K true):=by
 intro pins s σ H x y v u Q I rx ry h;obtain⟨p,xs,rfl,hq,fx,fs,q⟩:=h;cases ry;rcases hq with hq|hq
 ·obtain⟨its,r,pl,hz⟩:=I.list hq;refine Pg (eqU x) pl.isList (λw hw=>zK rx fx r fs w (by simpa using hw)) ⟨.bl _,H,I,rfl,?_⟩;rw [show its.toArray.any (eqU x)=its.any (eqU x) by simp,aC0 r fs];exact q
 ·obtain⟨its,r,pl,hz⟩:=I.tuple hq;refine Ot (eqU x) pl (λw hw=>zK rx fx r fs w (by simpa using hw)) ⟨.bl _,H,I,rfl,?_⟩;rw [show its.toArray.any (eqU x)=its.any (eqU x) by simp,aC0 r fs];exact q
def aX:eF X (.builtin "len") (aY6 X.K):=by
 intro pins s σ H xs us Q I r h;obtain⟨p,ys,rfl,hq,q⟩:=h;obtain⟨u,rfl,rx⟩:=vals1 r;cases rx;have hn:=wD;rcases hq with hq|hq
 ·obtain⟨its,r',pl,hz⟩:=I.list hq;have hlen:=r'.length;exact Calls.call_len_list pl.isList (by simp only [Al]<;>omega) ⟨.int ys.length,H,I.tok _,⟨s.toks+1,by rw [Al,hlen]⟩,q⟩
 ·obtain⟨its,r',pl,hz⟩:=I.tuple hq;have hlen:=r'.length;exact len_tuple pl (by simp only [Al]<;>omega) ⟨.int ys.length,H,I.tok _,⟨s.toks+1,by rw [Al,hlen]⟩,q⟩
def aDx:eF X (.builtin "len") (λxs H Q=>∃z,xs=[.str z]/\z.length<=sizeLine/\Q (.int z.length) H):=by
 intro pins s σ H xs us Q I r h;obtain⟨z,rfl,hz,q⟩:=h;obtain⟨u,rfl,t,rfl⟩:=vals1 r;have hn:=wD;exact len_str (by omega) ⟨.int z.length,H,I.tok _,⟨_,rfl⟩,q⟩
def aD3:eF X (.type "list") (aXw X.K):=by
 intro pins s σ H xs us Q I r h;obtain⟨p,ys,rfl,hq,q⟩:=h;obtain⟨u,rfl,rx⟩:=vals1 r;cases rx;have fin:∀(its:List Value),Vals ys its->ys.length<=sizeLine->∀(h':Heap) (c':Nat),(∀b o',s.heap.get? b=some o'->h'.get? b=some o')->
   h'.get? s.heap.objs.size=some {cls:= .type "list",dict:=none,data:= .seq its.toArray c',slots:= #[]}->EP X pins σ Q (.ref s.heap.objs.size) {s with heap:=h'}:=λits r' hz h' c' kp e=>
  ⟨.ref s.heap.objs.size,_,I.laid (t':=s.toks) kp (Am _) (show cL X.prog X.w _ h' _ (.lst ys)from⟨hz,its,c',r',e⟩),rfl,q _ (I.hok.fresh (Am _))⟩
 rcases hq with hq|hq
 ·obtain⟨its,r',pl,hz⟩:=I.list hq;have hlen:=r'.length;obtain⟨o,ho,hc,n,hd⟩:=pl.isList;exact call_list_seq p (.inl rfl) ho hc hd (λh' c' kp e=>fin its r' hz h' c' kp e) (by simp only [Al]<;>omega)
 ·obtain⟨its,r',pl,hz⟩:=I.tuple hq;have hlen:=r'.length;obtain⟨o,ho,hc,n,hd⟩:=pl;exact call_list_seq p (.inr rfl) ho hc hd (λh' c' kp e=>fin its r' hz h' c' kp e) (by simp only [Al]<;>omega)
def tL:eF X (.type "tuple") (λxs H Q=>∃p ys,xs=[.ref p]/\((SqL X.K H p ys/\∀l,H l=none->Q (.ref l) (upd H l (.tup ys)))∨(SqT X.K H p ys/\Q (.ref p) H))):=by
 intro pins s σ H xs us Q I r h;obtain⟨p,ys,rfl,h⟩:=h;obtain⟨u,rfl,rx⟩:=vals1 r;cases rx;rcases h with ⟨hq,q⟩|⟨hq,q⟩
 ·obtain⟨its,r',pl,hz⟩:=I.list hq;have hlen:=r'.length;refine call_tuple_list pl.isList (λh' kp=>?_) (by simp only [Al]<;>omega);have I1:Inv X pins σ H {s with heap:=h'}:=I.kept (t':=s.toks) kp;have I2:Inv X pins σ (upd H h'.objs.size (.tup ys)) {s with heap:=h'.push {cls:= .type "tuple",data:= .seq its.toArray}}:=
   I1.laid (t':=s.toks) (λb o e=>Ai _ e) (Am _) (show cL X.prog X.w _ _ _ (.tup ys)from⟨hz,its,r',Vv _ _⟩)
  exact⟨.ref h'.objs.size,_,I2,rfl,q _ (I1.hok.fresh (Am _))⟩
 ·obtain⟨its,r',pl,hz⟩:=I.tuple hq;exact call_tuple_same pl ⟨.ref p,H,I,rfl,q⟩
def tyV (K:Ac) (T:String) (x:V) (H:Hp):Prop:=match x with
 | .str _=>T="str"
 | .int _=>T="int"
 | .ref p=>(T="list"/\∃xs,SqL K H p xs)∨(T="tuple"/\∃o,K.lookup p=some o/\o.cls= .type "tuple"/\o.dict=none)∨
   (T="dict"/\((∃kvs,H p=some (.dK kvs))∨∃kvs,H p=some (.dT kvs)))∨(T="set"/\∃S n,H p=some (.set S n))
 |_=>False
def aUs {σ:St} {H:Hp} {T:String} {x:V} {v:Value} (I:Inv X pins σ H s) (r:RelV x v) (ty:tyV X.K T x H):
  s.TypeIs v T/\∀a,v= .ref a->∃ob,s.heap.get? a=some ob/\ob.dict=none:=by
 cases x with
 |str z=>
  obtain⟨t,rfl⟩:=r;cases (show T="str" from ty);exact⟨Su s z t,λ_ e=>nomatch e⟩
 |int i=>
  obtain⟨t,rfl⟩:=r;cases (show T="int" from ty);exact⟨typeIs_int s i t,λ_ e=>nomatch e⟩
 |ref p=>
  cases r;rcases ty with ⟨rfl,xs,hq⟩|⟨rfl,o,hk,hc,hd⟩|⟨rfl,hk⟩|⟨rfl,S,n,hk⟩
  ·obtain⟨its,_,pl,_⟩:=I.list hq;refine⟨pl.isList.typeIs,λa e=>?_⟩;cases e;obtain⟨o,n,e,c,hd,_⟩:=pl;exact⟨o,e,hd⟩
  ·refine⟨⟨o,I.kIn p o hk,hc⟩,λa e=>?_⟩;cases e;exact⟨o,I.kIn _ o hk,hd⟩
  ·have z:∃o,s.heap.get? p=some o/\o.ExactDict:=by
    rcases hk with ⟨kvs,hk⟩|⟨kvs,hk⟩
    ·obtain⟨_,_,_,_,o,_,_,e,ex,_⟩:=I.hok p _ hk;exact⟨o,e,ex⟩
    ·obtain⟨_,_,_,_,o,_,_,e,ex,_⟩:=I.hok p _ hk;exact⟨o,e,ex⟩
   obtain⟨o,e,ex⟩:=z;refine⟨⟨o,e,ex.1⟩,λa e2=>?_⟩;cases e2;exact⟨o,e,ex.2.1⟩
  ·obtain⟨o,_,_,_,e,ex,_⟩:=I.hok p _ hk;refine⟨⟨o,e,ex.1⟩,λa e2=>?_⟩;cases e2;exact⟨o,e,ex.2.1⟩
 |_=>exact Et ty
def tBM (K:Ac) (T:String) (r:V->List V->Hp->VK->Prop) (to:TE) (t:TA):TE:=λσ H Q=>to σ H λx H1=>tyV K T x H1/\t σ H1 λxs H2=>r x xs H2 Q
variable {o e:Expr} {es:List Expr} {to:TE} {t:TA} {name:Str} {apos cpos:Pos} {T id:String} {r:V->List V->Hp->VK->Prop}
def xT (pa:PlainAttrs T) (slot:Slot T name id) (hty:typeOf (.builtin id)=pure (.type "method_descriptor")) (hm:MtR X id r) (ho:PE X o to) (ha:PA X (e::es) t)
  (hbase:attributeBase o name X.env (eval o X.env)=eval o X.env:=by rfl)
  (hfew:((backTo cpos (starEach (e::es) X.env)).all (λx=> !x.1) && (backToKw cpos (keywordEach [] X.env)).all (λx=>x.1.isSome)
   && decide ((e::es).length+([]:List Keyword).length+(if([]:List Keyword).isEmpty then 0 else 1)<30))=true:=by rfl)
  (hline:(apos.endLine==cpos.line)=true:=by rfl) (hs:starEach (e::es) X.env=(false,eval e X.env)::starEach es X.env:=by rfl) (hplain:(backTo cpos (starEach es X.env)).any (·.1)=false:=by rfl):
  PE X (.Call (.Attribute o name apos) (e::es) [] cpos) (tBM X.K T r to t):=by
 intro pins s σ H Q I h;refine wpAny_Call_method_late hbase hfew hline rfl (thn (ho pins s σ H _ I h) λv s1 ⟨x,H1,I1,r1,ty,q1⟩=>?_);obtain⟨h1,h2⟩:=aUs I1 r1 ty;refine⟨T,id,pa,slot,hty,h1,h2,?_⟩;have hA:=ha cpos pins s1 σ H1 _ I1 q1;rw [hs]at hA⊢;refine Calls.callWith_builtin (by show(false || (backTo cpos (starEach es X.env)).any (·.1))=false;rw [hplain]<;>rfl) (Calls.evalArgs_plain ?_);exact thn hA λus s2 ⟨vs,H2,I2,r2,q2⟩=>hm pins s2 σ H2 x vs v us Q I2 r1 r2 q2
end
def MtM (X:Cx) (id:String) (r:V->List V->Hp->VK->Prop):Prop:=
 ∀(pins:List (Addr×Obj)) (s:Shared) (σ:St) (H:Hp) (x:V) (xs:List V) (v:Value) (us:List Value) (Q:VK),Inv X pins σ H s->RelV x v->Vals xs us->r x xs H Q->
  wpAny (model X.prog X.w) X.A (call (.builtin id) (v::us)) (EP X pins σ Q) X.xe s
def Vals.one:∀{x:V} {us:List Value},Vals [x] us->∃u,us=[u]/\RelV x u
 |_,_,.cons r .nil=>⟨_,rfl,r⟩
def Vals.eraseIdx:∀{xs:List V} {us:List Value} (i:Nat),Vals xs us->Vals (xs.eraseIdx i) (us.eraseIdx i)
 |_,_,_,.nil=> .nil
 |_,_,0,.cons _ t=>t
 |_,_,i+1,.cons r t=> .cons r (Vals.eraseIdx i t)
theorem iI {α:Type}:∀(l:List α) (i:Nat),(l.eraseIdx i).length<=l.length
 | [],_=>Am _
 |_::_,0=>Gd _
 |_::r,i+1=>Li (iI r i)
variable {X:Cx} {pins:List (Addr×Obj)} {σ:St} {H:Hp} {s:Shared} {l b:Addr} {xs ys zs:List V}
def Inv.lset {f:Array Value->Array Value} {t':Nat} (I:Inv X pins σ H s) (hH:H l=some (.lst xs))
  (e:s.heap.get? l=some {cls:= .type "list",data:= .seq its.toArray n}) (hf:f its.toArray=its'.toArray) (hv:Vals ys its') (hz:ys.length<=sizeLine):
  Inv X pins σ (upd H l (.lst ys)) {s with heap:=s.heap.update l (Ea f),toks:=t'}:=by
 have q:=PySem.IsL.update e f;rw [hf]at q;refine I.write (x:=l) (e:=l) (by rw [hH];exact trivial) (.inl rfl) (λb' u hb hu=>(Da s.heap (Ea f) (Cy hb)).trans hu) ⟨_,q⟩ ?_;exact⟨hz,its',_,hv,q⟩
def Inv.lnew {its:List Value} {t':Nat} (I:Inv X pins σ H s) (hv:Vals ys its) (hz:ys.length<=sizeLine):
  Inv X pins σ (upd H s.heap.objs.size (.lst ys)) {s with heap:=s.heap.push {cls:= .type "list",data:= .seq its.toArray},toks:=t'}:=
 I.laid (λ_ _ q=>Ai _ q) (Am _) ⟨hz,its,0,hv,Ar _ rfl⟩
def Inv.fresh (I:Inv X pins σ H s):H s.heap.objs.size=none:=I.hok.fresh (Am _)
def Inv.lstM (I:Inv X pins σ H s) (hH:H l=some (.lst xs)):xs.length<=sizeLine/\∃(its:List Value) (n:Nat),Vals xs its/\xs.length=its.length/\s.heap.get? l=some {cls:= .type "list",data:= .seq its.toArray n}:=by
 obtain⟨z,its,n,r,e⟩:=I.hok l _ hH;exact⟨z,its,n,r,r.length,e⟩
def aOu (h:n<=sizeLine):Hj n=false:=by
 unfold Hj;exact decide_eq_false (by omega)
inductive aE3 (x:V) (vs:List V) (H:Hp) (Q:VK):Prop
 |mk (l xs y:_) (q0_:x= .ref l) (q1_:vs=[y]) (q2_:H l=some (.lst xs)) (q3_:xs.length<sizeLine) (q4_:Q .non (upd H l (.lst (xs++[y])))):aE3 x vs H Q
def aQr:V->List V->Hp->VK->Prop:=λx vs H Q=>aE3 x vs H Q
def lW:MtM X "list.append" aQr:=by
 intro pins s σ H x vs v us Q I rx rv h;obtain⟨l,xs,y,rfl,rfl,hH,hz,q⟩:=h;cases rx;obtain⟨u,rfl,ru⟩:=rv.one;obtain⟨z,its,n,r,hl,e⟩:=I.lstM hH;refine Pf F.slot_list_append ⟨_,e,rfl⟩ F.entry_list_append (F.args_list_append_2 _ _) (PySem.list_append l its.toArray n u (by rw [Al];omega)) ⟨e,?_⟩;refine⟨.non,_,I.lset (its':=its++[u]) hH e (by simp) (r.append (.cons ru .nil)) ?_,rfl,q⟩;rw [Ag,De];omega
inductive aEz (x:V) (vs:List V) (H:Hp) (Q:VK):Prop
 |mk (l b xs zs:_) (q0_:x= .ref l) (q1_:vs=[.ref b]) (q2_:H l=some (.lst xs)) (q3_:H b=some (.lst zs)) (q4_:xs.length+zs.length<=sizeLine) (q5_:Q .non (upd H l (.lst (xs++zs)))):aEz x vs H Q
def aSb:V->List V->Hp->VK->Prop:=λx vs H Q=>aEz x vs H Q
def aLj:MtM X "list.extend" aSb:=by
 intro pins s σ H x vs v us Q I rx rv h;obtain⟨l,b,xs,zs,rfl,rfl,hH,hB,hz,q⟩:=h;cases rx;obtain⟨u,rfl,ru⟩:=rv.one;cases ru;obtain⟨z,its,n,r,hl,e⟩:=I.lstM hH;obtain⟨z2,its2,n2,r2,hl2,e2⟩:=I.lstM hB;have hsz:its.toArray.size+its2.toArray.size<=sizeLine:=by rw [Al,Al];omega
 have hlong:¬(!its.toArray.isEmpty && Hj (its.toArray.size+its2.toArray.size))=true:=by
  rw [aOu hsz,Gx];exact Aj
 refine Pf F.slot_list_extend ⟨_,e,rfl⟩ F.entry_list_extend (F.args_list_extend_2 _ _)
  (AutoSeq1.list_extend_list_list_0 l its.toArray n b its2.toArray n2 hlong (by rw [Al];omega) (by omega)) ⟨e,e2,?_⟩
 refine⟨.non,_,I.lset (its':=its++its2) hH e (by simp) (r.append r2) ?_,rfl,q⟩;rw [Ag];omega
inductive aJa (x:V) (vs:List V) (H:Hp) (Q:VK):Prop
 |mk (l xs i k y:_) (q0_:x= .ref l) (q1_:vs=[.int i]) (q2_:H l=some (.lst xs)) (q3_: -(2 ^ 63)<=i) (q4_:i<2 ^ 63) (q5_:seqIndex? i xs.length=some k) (q6_:xs[k]? =some y) (q7_:Q y (upd H l (.lst (xs.eraseIdx k)))):aJa x vs H Q
def aT8:V->List V->Hp->VK->Prop:=λx vs H Q=>aJa x vs H Q
def aN9:MtM X "list.pop" aT8:=by
 intro pins s σ H x vs v us Q I rx rv h;obtain⟨l,xs,i,k,y,rfl,rfl,hH,h1,h2,hk,hy,q⟩:=h;cases rx;obtain⟨u,rfl,ru⟩:=rv.one;obtain⟨t,rfl⟩:=ru;obtain⟨z,its,n,r,hl,e⟩:=I.lstM hH;obtain⟨w,hw,rw'⟩:=r.get hy;refine Pf F.slot_list_pop ⟨_,e,rfl⟩ F.entry_list_pop (F.args_list_pop_2 _ _)
  (MeetsSeq.list_pop_at l its.toArray n i t k w (fitsIndex_both h1 h2) (by rw [Al, <-hl];exact hk) (by rw [<-Bj];exact hw) (by rw [Al];omega)) ⟨e,?_⟩
 refine⟨y,_,I.lset (its':=its.eraseIdx k) hH e ?_ (r.eraseIdx k) ?_,rw',q⟩
 ·show its.toArray.eraseIdxIfInBounds k=(its.eraseIdx k).toArray;rw [List.eraseIdxIfInBounds_toArray]
 ·have:=iI xs k;omega
inductive aTo (x:V) (y:V) (H:Hp) (Q:VK):Prop
 |mk (l b xs zs:_) (q0_:x= .ref l) (q1_:y= .ref b) (q2_:H l=some (.lst xs)) (q3_:H b=some (.lst zs)) (q4_:xs.length+zs.length<=sizeLine) (q5_:∀p,H p=none->Q (.ref p) (upd H p (.lst (xs++zs)))):aTo x y H Q
def aYj:R2:=λx y H Q=>aTo x y H Q
def aVb:OpR X (binaryOp .Add) aYj:=by
 intro pins s σ H x y v u Q I rx ry h;obtain⟨l,b,xs,zs,rfl,rfl,hH,hB,hz,q⟩:=h;cases rx;cases ry;obtain⟨z,its,n,r,hl,e⟩:=I.lstM hH;obtain⟨z2,its2,n2,r2,hl2,e2⟩:=I.lstM hB;refine PySem.P.add_list e e2 ?_ (by rw [Al,Al];omega);have ea:its.toArray++its2.toArray=(its++its2).toArray:=by simp
 rw [ea];exact⟨.ref _,_,I.lnew (t':=s.toks) (r.append r2) (by rw [Ag];omega),rfl,q _ I.fresh⟩
variable {prog:Program} {w:World} {A:Around} {E:Value->Shared->Prop}
end L2
namespace Att
open PySem PySem.W PySem.Calls PyProof.Rows
def xZ {P:Params} {h:Heap}:∀(ns:List Int) (vs:List Value),WellAll P h vs (ns.map Vt)->IntsAre vs ns:=by
 intro ns;induction ns with
 |nil=>
  intro vs w;rw [Dn]at w;cases w;exact .nil
 |cons n ns ih=>
  intro vs w;rw [Aw]at w;cases w with
  |cons a b=>
   cases a;exact .cons _ _ (ih _ b)
def aK2 {l:OpenLaw} {n:Nat} (hn:l.most=some n) {P:Params} {h:Heap} {args:List WData} {vals:List Value}
  (hpre:l.row.toRowW.claim.pre args=true) (hwl:WellAll P h vals args):
  ∃a vs ns,vals=[An a]/\args=[WData.list (ns.map Vt)]/\h.get? a=some {cls:= .type "list",data:= .seq vs.toArray}/\IntsAre vs ns/\ns.length<=n:=by
 have hsh:WShape.hasAll [] args [.list .int]=true:=(pre_splitW hpre).1;have hc:l.pre.holds [] {args:=args}=true:=(pre_splitW hpre).2;obtain⟨d,r,rfl,h1,h2⟩:=hasAllW_cons hsh;obtain rfl:=hasAllW_nil h2;obtain⟨xs,rfl,h3⟩:=hasW_list h1;obtain⟨ns,rfl⟩:=items_int h3;have hlen:ns.length<=n:=by
  unfold OpenLaw.pre at hc;have h4:(WTm.not (.lt (.lit (.int (n:Int))) (.len (.arg 0)))).holds [] {args:=[.list (ns.map .int)]}=true:=by
   have h4:=(holds_andW hc).1;rw [hn]at h4;exact h4
  have h5:=condW_of h4 (w_not (w_lt w_lit (w_len_list (w_arg rfl))));rw [Ab]at h5;refine Nat.le_of_not_lt λq=>?_;have q':(n:Int)<((ns.length:Nat):Int):=by omega
  first
   |(rw [decide_eq_true q']at h5;exact absurd h5 (by decide))
   |(simp at h5;omega)
 cases hwl with
 |cons w1 w2=>
  cases w2;cases w1 with
  |list ho hall=>exact⟨_,_,ns,rfl,rfl,ho,xZ ns _ hall,hlen⟩
def aKy (l:OpenLaw) (args:List WData):l.row.toRowW.claim.post args (.bool true) args=true:=
 postW_of (r:=l.row.toRowW) (X:=(true==true))
  (show Sw [] (.bool true) .bool=true by first|rfl|decide|simp [Sw,WShape.arms,WShape.armsAll])
  (show(WTm.eq .res (.lit (.bool true))).value [] {args:=args,res:=some (.bool true),after:=args}=some (.bool (true==true))from w_eq_bool (w_res rfl) w_lit) rfl
def aE8 {l:OpenLaw} {n:Nat} {q:Program} {loose:List Str} {XP:(Str->Option Value)->Heap->Prop} {YP:World->Heap->Prop} {d:DefRec}
  (hn:l.most=some n) (hdf:d.params.defaults=[])
  (call:∀(w:World) (s₀ s₁:Shared) (mg mb:Str->Option Value) (fa:Addr) (o:Obj) (pm cd doc:Value) (a:Addr) (vs:List Value) (ns:List Int),
   Ground q loose [] XP w s₀ mg mb s₁.heap->YP w s₁.heap->
   s₁.heap.get? fa=some o->o.data= .func (docDef d.name d.params d.body d.scope pm cd doc)->s₁.heap.CodeRec cd d.name->mg d.name=some (.ref fa)->
   s₁.heap.get? a=some {cls:= .type "list",data:= .seq vs.toArray}->IntsAre vs ns->ns.length<=n->s₁.gens= #[]->
   codeAny (model l.prog w) callerA (.call (.ref fa) ⟨[.ref a],[]⟩) (λr s'=>r= .ok (.ret (.bool true))/\OldK s₁.heap s'.heap/\s'.os=s₁.os/\AllBare s'.gens) s₁):
  WalkO q loose XP YP l.row.toRowW d [] (λf vs=>Pr f vs):=by
 intro w s₀ s₁ mg mb G Y fa o pm cd doc dV kV ho hd hcd hD hmg hg args vals as hpre hlay hrd hwl hlo;obtain rfl:dV= .none:=Dflts.none hD hdf;obtain rfl:kV= .none:=Dflts.noKw hD;obtain⟨a,vs,ns,rfl,rfl,hobj,hints,hlen⟩:=aK2 hn hpre hwl;refine enter_call (Hl (call w s₀ s₁ mg mb fa o pm cd doc a vs ns G Y ho (fd_plain hd) hcd hmg hobj hints hlen hg) λr s' hq=>?_);obtain⟨rfl,h2,h3,h4⟩:=hq;exact⟨.inl ⟨.bool true,.bool true,[],rfl,λ_=>rfl,.bool true,aKy l _,λ_=>⟨Tu,λ_ hm=>(nomatch hm)⟩⟩,h2,h3,h4⟩
variable {prog:Program} {w:World} {A:Around} {E:Value->Shared->Prop} {s:Shared} {K:Frag}
end Att
namespace L2
variable {fd:FuncData} {x qual:Str} {f:Addr} {k:Nat}
open PySem PySem.Spec PyProof.Rows
theorem aCp:∀{vs:List Value} {ns:List Int},IntsAre vs ns->Vals (ns.map V.int) vs
 |_,_,.nil=> .nil
 |_,_,.cons n t h=> .cons ⟨t,rfl⟩ (aCp h)
def Only (H:Hp):Prop:=∀b,H b=none∨∃o xs,H b=some (.frz o (.lst xs))
def aP2 {P:Program} {w:World} {K:Ac} {mg mb:Str->Option Value} {CX:CXT} {fa a:Addr} {x:Str} {sp:Sp} {s₁:Shared} {vs:List Value} {ns:List Int}
  (KX:K.In s₁.heap) (hns:s₁.heap.Ns mainGlobals mg) (hb:s₁.heap.Ns builtinsNs mb) (hbb:∀x:Str,x≠"__name__"->mb x=bootBuiltins x) (hlim:s₁.heap.NoLimit) (hg:s₁.gens= #[])
  (ha:s₁.heap.get? a=some {cls:= .type "list",data:= .seq vs.toArray}) (hi:IntsAre vs ns) (hl:ns.length<=sizeLine) (hr:dH k callerA)
  (F:∀base:Heap,K.In base->base.Ns mainGlobals mg->bB P w K mg base CX k fa fd [x] sp) (hbind:∀(s:Shared) (u:Value),BindsTo s fd ⟨[u],[]⟩ [(x,u)])
  (hsp:∀H:Hp,Only H->SqL K H a (ns.map V.int)->sp [.ref a] H (λv _=>v= .bl true) λ_ _ _=>False)
  (hCX:∀H e s',CX [] H s₁ (λ_ _ _=>False) e s'->False):
  codeAny (model P w) callerA (.call (.ref fa) ⟨[.ref a],[]⟩) (λr s'=>r= .ok (.ret (.bool true))/\OldK s₁.heap s'.heap/\s'.os=s₁.os/\AllBare s'.gens) s₁:=by
 have rv:=aCp hi;have lenV:=hi.length;have core:∀H:Hp,Only H->SqL K H a (ns.map V.int)->HOk P w H s₁.heap->(∀b,H b≠none->b=a)->(H a≠none->K.lookup a=none)->
   codeAny (model P w) callerA (.call (.ref fa) ⟨[.ref a],[]⟩) (λr s'=>r= .ok (.ret (.bool true))/\OldK s₁.heap s'.heap/\s'.os=s₁.os/\AllBare s'.gens) s₁:=by
  intro H hO hS hok hA hK;have base_of:∀{b:Addr} {o:Obj},s₁.heap.get? b=some o->H b=none->(aDn s₁.heap H).get? b=some o:=λe n=>aMs e n;have noA:∀{b:Addr} {o:Obj} {es:Array DictEntry} {ep:Nat},s₁.heap.get? b=some o->o.data= .dict es ep->H b=none:=λ{b o es ep} e d=>by
   cases q:H b with
   |none=>rfl
   |some u=>
    have e':b=a:=hA b (by rw [q];simp);subst e';rw [ha]at e;cases e;have d':Data.seq vs.toArray _=Data.dict es ep:=d;cases d'
  have nsK:∀{b:Addr} {m:Str->Option Value},s₁.heap.Ns b m->(aDn s₁.heap H).Ns b m:=λ{b m} ⟨o,es,ep,e,d,r⟩=>⟨o,es,ep,base_of e (noA e d),d,r⟩;have hKb:K.In (aDn s₁.heap H):=λb o e=>base_of (KX b o e) (by
   cases q:H b with
   |none=>rfl
   |some u=>
    have e':b=a:=hA b (by rw [q];simp);subst e';rw [hK (by rw [q];simp)]at e;cases e)
  have hM:Mod K mg (aDn s₁.heap H):=⟨hKb,nsK hns,⟨mb,nsK hb,hbb⟩,let⟨mc,h1,h2⟩:=hlim;⟨mc,nsK h1,h2⟩⟩;have e0:aG8 P w K mg (aDn s₁.heap H) callerA [] s₁ H:=⟨rfl,hM,λb o e=>aRn e,Oz (aLc _ _),trivial,λb hb=>absurd (show b∈([]:List Addr)from hb) (by simp),hok,.of_eq hg⟩;refine Hl ((F _ hKb (nsK hns)).run callerA [] s₁ H ⟨[.ref a],[]⟩ [.ref a] [.ref a] _ _ hr e0 (hbind s₁ (.ref a)) (.cons rfl .nil) (hsp H hO hS)) λr s' h=>?_;cases r with
  |error e=>exact(hCX H e s' h).elim
  |ok fl=>
   cases fl with
   |next=>exact Et h
   |brk=>exact Et h
   |cont=>exact Et h
   |ret u=>
    obtain⟨v,H',os,bare,un,hok',r',q⟩:=h;have q':v= .bl true:=q;subst q';obtain rfl:u=Ga true:=r';refine⟨rfl,OldK.of_keep λb o e=>?_,os,bare⟩;cases q:H b with
    |none=>exact un.keep b o e q (by intro z;exact absurd (show b∈([]:List Addr)from z) (by simp)) (by simp)
    |some u=>
     rcases hO b with z|⟨ob,xs,z⟩
     ·rw [q]at z;cases z
     ·have z2:=un.frzs b ob _ z;obtain⟨e1,_⟩:=hok b _ z;obtain⟨e2,_⟩:=hok' b _ z2;rw [e]at e1;cases e1;exact e2
 cases hk:K.lookup a with
 |some o=>
  have e:=KX a o hk;rw [ha]at e;cases e;refine core (λ_=>none) (λ_=> .inl rfl) (.inr ⟨_,vs.toArray,_,hk,rfl,rfl,rfl,by rw [Al,lenV];exact hl,by simpa using rv⟩) (λb u z=>by have z':(none:Option HO)=some u:=z;cases z') (λb z=>absurd rfl z) λz=>absurd rfl z
 |none=>
  refine core (λb=>if b=a then some (.frz {cls:= .type "list",data:= .seq vs.toArray} (.lst (ns.map V.int)))else none) (λb=>?_) (.inl (.inr ⟨{cls:= .type "list",data:= .seq vs.toArray},if_pos rfl⟩)) (λb u z=>?_) (λb z=>?_) λ_=>hk
  ·by_cases hb:b=a
   ·exact .inr ⟨_,_,if_pos hb⟩
   ·exact .inl (if_neg hb)
  ·by_cases hb:b=a
   ·have z':=(if_pos hb).symm.trans z;cases z';subst hb;exact⟨ha,by rw [Ab];exact hl,vs,_,rv,ha⟩
   ·have z':=(if_neg hb).symm.trans z;cases z'
  ·by_cases hb:b=a
   ·exact hb
   ·exact absurd (if_neg hb) z
def aR2 {l:PySem.W.OpenLaw} {n k:Nat} {q:Program} {loose:List Str} {XP:(Str->Option Value)->Heap->Prop} {YP:World->Heap->Prop} {d:DefRec} {K:Params->Ac} {CX:World->CXT} {sp:World->Sp} {x:Str}
  (hn:l.most=some n) (hn2:n<=sizeLine) (hdf:d.params.defaults=[]) (hr:dH k callerA)
  (hY:∀(w:World) (h:Heap),YP w h->(K w.params).In h)
  (F:∀(w:World) (mg:Str->Option Value) (fa:Addr) (h:Heap),(K w.params).In h->h.Ns mainGlobals mg->mg d.name=some (.ref fa)->
   ∃fd:FuncData,(∀(s:Shared) (u:Value),BindsTo s fd ⟨[u],[]⟩ [(x,u)])/\
    ∀base:Heap,(K w.params).In base->base.Ns mainGlobals mg->bB l.prog w (K w.params) mg base (CX w) k fa fd [x] (sp w))
  (hsp:∀(w:World) (H:Hp) (a:Addr) (ns:List Int),ns.length<=n->Only H->SqL (K w.params) H a (ns.map V.int)->sp w [.ref a] H (λv _=>v= .bl true) λ_ _ _=>False)
  (hCX:∀(w:World) (H:Hp) (s:Shared) (e:Value) (s':Shared),CX w [] H s (λ_ _ _=>False) e s'->False):
  PySem.W.WalkO q loose XP YP l.row.toRowW d [] (λf vs=>Pr f vs):=by
 refine Att.aE8 hn hdf λw s₀ s₁ mg mb fa o pm cd doc a vs ns G Y ho hd hcd hmg hobj hints hlen hg=>?_;have KX:=hY w _ Y;obtain⟨fd,hb,hF⟩:=F w mg fa _ KX G.T.g hmg;exact aP2 KX G.T.g G.T.b G.T.builtins G.T.nolimit hg hobj hints (Cp hlen hn2) hr hF hb (λH hO hS=>hsp w H a ns hlen hO hS) λH e s'=>hCX w H s₁ e s'
def inClass (s:Stmt) (j:Nat):Stmt:=match s with
 | .ClassDef _ _ _ body _ _ _ _ _ _ _=>body.getD j (.Pass ⟨0,0,0,0⟩)
 |_=> .Pass ⟨0,0,0,0⟩
def jU (s:Stmt):Arguments:=match s with
 | .FunctionDef _ a _ _ _ _ _ _ _ _=>a
 |_=>{posonlyargs:=[],args:=[],vararg:=none,kwonlyargs:=[],kw_defaults:=[],kwarg:=none,defaults:=[]}
def fU (s:Stmt):List Stmt:=match s with
 | .FunctionDef _ _ b _ _ _ _ _ _ _=>b
 |_=>[]
def aC (s:Stmt):Scope:=match s with
 | .FunctionDef _ _ _ _ _ _ sc _ _ _=>sc
 |_=>{kind:= .function,names:=[],isGenerator:=false,isCoroutine:=false}
abbrev CX0:CXT:=λ_ _ _ _ _ _=>False
abbrev E0:XK:=λ_ _ _=>False
def bG {X:Cx}:pH CX0 X E0:=λ_ _ _ _ _ _ _ h=>h.elim
structure Fun (K:Ac) (x qual:Str) (st:Stmt) (f:Addr) (fd:FuncData):Prop where
 ex:∃(oc:Value) (od:Option Addr) (kV doc pm:Value) (an:Option Addr) (cdv ct:Value) (osl:Array (Option Value)),
  fd=Em x qual (jU st) (fU st) (aC st) .none kV doc pm an cdv ct/\K.lookup f=some ⟨oc,od,.func fd,osl⟩/\Lh K cdv qual=true
 kp:Fs K (.ref f)=true
variable {P:Program} {w:World} {K:Ac} {mg:Str->Option Value} {base:Heap}
def Fun.ok {st:Stmt} {N ps:List Str} {sp:Sp} (F:Fun K x qual st f fd) (S:aL N ps (aC st)) (len:∀vs H Q E,sp vs H Q E->vs.length=ps.length)
  (hbody:∀(cdv:Value) (A:Around) (outer:List Env) (s:Shared) (H:Hp) (vs:List V) (Q:VK) (E:XK),dH k (A.deeper (envOfC qual (aC st) s.heap.objs.size f cdv))->sp vs H Q E->
   ∃t,PSs (aF8 CX0 P w K mg base N qual (aC st) f cdv A outer s H E).nox (fU st) t/\t {nx:=λ_ H'=>Q .non H',rt:=Q} (start N vs) H):bB P w K mg base CX0 (k+1) f fd ps sp:=by
 obtain⟨oc,od,kV,doc,pm,an,cdv,ct,osl,rfl,lk,hcd⟩:=F.ex;refine aX0 lk hcd S len λA outer s H vs Q E hr hsp=>?_;obtain⟨t,h,q⟩:=hbody cdv A outer s H vs Q E hr hsp;exact⟨t,h.nox,q⟩
def Fun.binds {st:Stmt} {ps:List Str} (F:Fun K x qual st f fd)
  (h:∀(kV doc pm:Value) (an:Option Addr) (cdv ct:Value) (us:List Value),us.length=ps.length->bindArgs (Em x qual (jU st) (fU st) (aC st) .none kV doc pm an cdv ct) ⟨us,[]⟩=pure (ps.zip us)):Binds K fd ps []:=by
 obtain⟨oc,od,kV,doc,pm,an,cdv,ct,osl,rfl,lk,hcd⟩:=F.ex;exact .all (h kV doc pm an cdv ct)
def aUi {st:Stmt} {oc:Value} {od an:Option Addr} {osl:Array (Option Value)} {kV doc pm cdv ct:Value} (l:K.lookup f=some ⟨oc,od,.func (Em x qual (jU st) (fU st) (aC st) .none kV doc pm an cdv ct),osl⟩)
  (c:Lh K cdv qual=true) (k:Fs K (.ref f)=true):Fun K x qual st f (Em x qual (jU st) (fU st) (aC st) .none kV doc pm an cdv ct):=⟨⟨oc,od,kV,doc,pm,an,cdv,ct,osl,rfl,l,c⟩,k⟩
def oJ {A:Around} (hr:dH k A):A.units+1<cLine:=Kh (Nat.add_le_add_left (by decide:1<=64) _) hr.units
variable {X:Cx}
def pv (i:Nat) {x:Str} {pos:Pos} (hN:X.N[i]? =some x:=by rfl) (hv:Vis X.env.scope x:=by first|exact Bu rfl|exact Bz (Bu rfl)|exact Bz (Bz rfl)) (hd:(x==("__debug__":Str))=false:=by decide)
  (hcd:(x==("__classdict__":Str))=false:=by decide):PE X (.Name x pos) (aWe i):=lD hN hv hd hcd
def qP {A B:Prop} (h:B):if false=true then A else B:=by
 rw [if_neg Aj];exact h
def aGn {A B:Prop} (h:A):if true=true then A else B:=by
 rw [if_pos rfl];exact h
def aZo {c A B:Prop} [Decidable c] (h1:c->A) (h2:¬c->B):if c then A else B:=by
 by_cases h:c
 ·rw [if_pos h];exact h1 h
 ·rw [if_neg h];exact h2 h
def aNr {c A B:Prop} [Decidable c] (hc:c) (h:B):if(!decide c)=true then A else B:=by
 rw [decide_eq_true hc];exact qP h
def fC (H H':Hp):Prop:=∀b o,H b=some o->H' b=some o
def fC.refl (H:Hp):fC H H:=λ_ _ h=>h
def fC.trans {H H1 H2:Hp} (a:fC H H1) (b:fC H1 H2):fC H H2:=λc o h=>b c o (a c o h)
end L2
set_option maxHeartbeats 4000000
namespace L2
variable {kvs:List (List Key×V)} {xs:List (List Key×Addr×Value)} {u:Value} {Q:Value->Shared->Prop} {trs:List (TE×TE)} {y:V}
open PySem PySem.Spec PyProof.Rows
section
variable {κ:Type} [DecidableEq κ]
def mR (kvs:List (κ×V)) (k:κ):Option V:=(kvs.find? λkv=>decide (kv.1=k)).map (·.2)
def putK (kvs:List (κ×V)) (k:κ) (v:V):List (κ×V):=
 if(kvs.any λkv=>decide (kv.1=k))=true then kvs.map (λkv=>if kv.1=k then(kv.1,v)else kv)else kvs++[(k,v)]
def oW {p:κ×V} {r:List (κ×V)} {k:κ} (e:p.1=k):mR (p::r) k=some p.2:=by simp [mR,Dc,e]
def oH {p:κ×V} {r:List (κ×V)} {k:κ} (e:¬p.1=k):mR (p::r) k=mR r k:=by simp [mR,Dc,e]
theorem aF3 (k:κ):∀kvs:List (κ×V),(kvs.any λkv=>decide (kv.1=k))=(mR kvs k).isSome
 | []=>rfl
 |p::r=>by
  rw [Dw];by_cases e:p.1=k
  ·simp only [oW e,decide_eq_true e,Bool.true_or,Option.isSome_some]
  ·rw [oH e,decide_eq_false e,Bool.false_or];exact aF3 k r
def rB (kvs:List (κ×V)) (k:κ) (v:V):(putK kvs k v).length<=kvs.length+1:=by
 unfold putK;split
 ·rw [Ab];omega
 ·rw [Ag,Ah,Be];omega
def sX.isSome_eq {o:Option V} {u:Option Value} (r:sX o u):o.isSome=u.isSome:=by
 cases o with
 |none=>cases u with
  |none=>rfl
  |some _=>exact(show False from r).elim
 |some _=>cases u with
  |none=>exact(show False from r).elim
  |some _=>rfl
def KV.val {kvs:List (κ×V)} {vs:List (κ×Value)} (r:KV kvs vs) (k:κ):sX (mR kvs k) (valueAt vs k):=by
 unfold KV at r;induction r with
 |nil=>exact En
 |@cons p q ps qs h t ih=>
  obtain⟨h1,h2⟩:=h;by_cases e:p.1=k
  ·have e':q.1=k:=h1.symm.trans e;have b:valueAt (q::qs) k=some q.2:=by simp [valueAt,Dc,e']
   rw [oW e,b];exact h2
  ·have e':¬q.1=k:=λz=>e (h1.trans z);have b:valueAt (q::qs) k=valueAt qs k:=by simp [valueAt,Dc,e']
   rw [oH e,b];exact ih
def KV.any {kvs:List (κ×V)} {vs:List (κ×Value)} (r:KV kvs vs) (k:κ):(kvs.any λkv=>decide (kv.1=k))=vs.any λkv=>decide (kv.1=k):=by
 unfold KV at r;induction r with
 |nil=>rfl
 |cons h t ih=>rw [Dw,Dw,ih,h.1]
def KV.repl {kvs:List (κ×V)} {vs:List (κ×Value)} (r:KV kvs vs) (k:κ) (ry:RelV y u):
  KV (kvs.map λkv=>if kv.1=k then(kv.1,y)else kv) (vs.map λkv=>if kv.1=k then(kv.1,u)else kv):=by
 unfold KV at r⊢;induction r with
 |nil=>exact .nil
 |@cons p q ps qs h t ih=>
  rw [Aw,Aw];refine .cons ?_ ih;obtain⟨h1,h2⟩:=h;by_cases e:p.1=k
  ·rw [if_pos e,if_pos (h1.symm.trans e)];exact⟨h1,ry⟩
  ·rw [if_neg e,if_neg (λz=>e (h1.trans z))];exact⟨h1,h2⟩
def KV.put {kvs:List (κ×V)} {vs:List (κ×Value)} (r:KV kvs vs) (k:κ) (ry:RelV y u):KV (putK kvs k y) (stored vs k u):=by
 unfold putK stored;rw [r.any k];by_cases e:(vs.any λkv=>decide (kv.1=k))=true
 ·rw [if_pos e,if_pos e];exact r.repl k ry
 ·rw [if_neg e,if_neg e];exact Sg r ⟨rfl,ry⟩
def KV.length {kvs:List (κ×V)} {vs:List (κ×Value)} (r:KV kvs vs):kvs.length=vs.length:=Mo r
end
def aJo {P:Program} {w:World} {k:Key} (r:RelV (kV k) u):(eU P w).is k u=true:=by
 cases k with
 |inl i=>obtain⟨t,e⟩:=(show∃t,u=Cz i t from r);subst e;exact aFp P w i t
 |inr x=>obtain⟨t,e⟩:=(show∃t,u=Ka x t from r);subst e;exact aFv P w x t
theorem aB6 {P:Program} {w:World}:∀{ks:List Key} {us:List Value},Vals (ks.map kV) us->ItemsAre (eU P w) ks us
 | [],_,r=>by rw [Dn]at r;cases r;exact .nil
 |k::ks,_,r=>by
  rw [Aw]at r;cases r with
  |cons h t=>exact .cons (aJo h) (aB6 t)
abbrev KT (H:Hp):List (List Key×V)->List (List Key×Addr×Value)->Prop:=Paired λp q=>p.1=q.1/\H q.2.1=some (.tup (p.1.map kV))/\RelV p.2 q.2.2
def KT.val {H:Hp} (r:KT H kvs xs) (k:List Key):sX (mR kvs k) ((atKey xs k).map (·.2)):=by
 induction r with
 |nil=>exact En
 |@cons p q ps qs h t ih=>
  obtain⟨h1,_,h2⟩:=h;by_cases e:p.1=k
  ·have e':q.1=k:=h1.symm.trans e;have b:atKey (q::qs) k=some q.2:=by simp [atKey,Dc,e']
   rw [oW e,b];exact h2
  ·have e':¬q.1=k:=λz=>e (h1.trans z);have b:atKey (q::qs) k=atKey qs k:=by simp [atKey,Dc,e']
   rw [oH e,b];exact ih
def KT.repl {H:Hp} (r:KT H kvs xs) (k:List Key) (ry:RelV y u):
  KT H (kvs.map λkv=>if kv.1=k then(kv.1,y)else kv) (xs.map (putAt k u)):=by
 induction r with
 |nil=>exact .nil
 |@cons p q ps qs h t ih=>
  rw [Aw,Aw];refine .cons ?_ ih;obtain⟨h1,h2,h3⟩:=h;unfold putAt;by_cases e:p.1=k
  ·rw [if_pos e,if_pos (h1.symm.trans e)];exact⟨h1,h2,ry⟩
  ·rw [if_neg e,if_neg (λz=>e (h1.trans z))];exact⟨h1,h2,h3⟩
def KT.put {H:Hp} (r:KT H kvs xs) (k:List Key) {b:Addr} (hb:H b=some (.tup (k.map kV))) (ry:RelV y u):
  KT H (putK kvs k y) (storedH xs k b u):=by
 have e:(kvs.any λkv=>decide (kv.1=k))=(atKey xs k).isSome:=by
  rw [aF3,(r.val k).isSome_eq,Option.isSome_map]
 unfold putK storedH;rw [e];by_cases q:(atKey xs k).isSome=true
 ·rw [if_pos q,if_pos q];exact r.repl k ry
 ·rw [if_neg q,if_neg q];exact Sg r ⟨rfl,hb,ry⟩
def KT.keeps {H H':Hp} (r:KT H kvs xs) (ht:∀b ys,H b=some (.tup ys)->H' b=some (.tup ys)):KT H' kvs xs:=
 Paired.mapP r λ_ _ z=>⟨z.1,ht _ _ z.2.1,z.2.2⟩
variable {P:Program} {w:World} {H:Hp} {h:Heap} {a:Addr}
def aTy {u:HO} (ok:HOk P w H h) (e:Rd H a u):cL P w H h a u:=e.ok ok
def aN1 {kvs:List (Key×V)} (ok:HOk P w H h) (e:Rd H a (.dK kvs)):kvs.length<=sizeLine/\(a==sysModules)=false/\∃vs,KV kvs vs/\h.DictOf (eU P w) a vs:=
 show cL P w H h a (.dK kvs)from aTy ok e
def aS4 {kvs:List (Key×V)} (ok:HOk P w H h) (e:H a=some (.dK kvs)):kvs.length<=sizeLine/\(a==sysModules)=false/\∃vs,KV kvs vs/\h.DictOf (eU P w) a vs:=aN1 ok (.inl e)
def aGy {ks:List Key} (ok:HOk P w H h) (e:H a=some (.tup (ks.map kV))):(tupleKind (eU P w)).is h ks a:=by
 obtain⟨_,its,r,o,h1,h2,n,h3⟩:=(show cL P w H h a (.tup (ks.map kV))from ok a _ e);exact⟨o,its.toArray,n,h1,h2,h3,by simpa using aB6 r⟩
def aO1 (ok:HOk P w H h) (e:Rd H a (.dT kvs)):kvs.length<=sizeLine/\(a==sysModules)=false/\
  ∃xs,KT H kvs xs/\h.DictOfH (tupleKind (eU P w)) a xs:=by
 obtain⟨z,y,xs,r,o,es,ep,h1,h2,h3,h4,h5⟩:=(show cL P w H h a (.dT kvs)from aTy ok e);refine⟨z,y,xs,r,o,es,ep,h1,h2,h3,h4,λx hx=>?_,h5⟩;have all:∀{l:List (List Key×V)} {m:List (List Key×Addr×Value)},KT H l m->∀x∈m,(tupleKind (eU P w)).is h x.1 x.2.1:=by
  intro l m q;induction q with
  |nil=>intro x hx;exact nomatch hx
  |@cons p q ps qs hq t ih=>
   intro x hx;rcases List.mem_cons.mp hx with e|hx
   ·subst e;exact aGy ok (by rw [<-hq.1];exact hq.2.1)
   ·exact ih x hx
 exact all r x hx
def aXj (ok:HOk P w H h) (e:H a=some (.dT kvs)):kvs.length<=sizeLine/\(a==sysModules)=false/\
  ∃xs,KT H kvs xs/\h.DictOfH (tupleKind (eU P w)) a xs:=aO1 ok (.inl e)
def zQ (H:Hp) (a:Addr) (y:V) (r:Option V):Prop:=
 (∃kvs k,Rd H a (.dK kvs)/\y=kV k/\r=mR kvs k)∨∃kvs k b,Rd H a (.dT kvs)/\y= .ref b/\H b=some (.tup (k.map kV))/\r=mR kvs k
def aLi (H:Hp) (a:Addr) (y v:V) (H':Hp):Prop:=
 (∃kvs k,H a=some (.dK kvs)/\y=kV k/\kvs.length<sizeLine/\H'=upd H a (.dK (putK kvs k v)))∨
 ∃kvs k b,H a=some (.dT kvs)/\y= .ref b/\H b=some (.tup (k.map kV))/\kvs.length<sizeLine/\H'=upd H a (.dT (putK kvs k v))
theorem zQ.k {H:Hp} {a:Addr} {kvs:List (Key×V)} {k:Key} (e:H a=some (.dK kvs)):zQ H a (kV k) (mR kvs k):= .inl ⟨kvs,k,.inl e,rfl,rfl⟩
theorem aLi.k {H:Hp} {a:Addr} {kvs:List (Key×V)} {k:Key} {v:V} (e:H a=some (.dK kvs)) (hl:kvs.length<sizeLine):aLi H a (kV k) v (upd H a (.dK (putK kvs k v))):= .inl ⟨kvs,k,e,rfl,hl,rfl⟩
variable {X:Cx} {pins:List (Addr×Obj)} {σ:St} {s:Shared} {y v:V} {u r:Value} {o:Option V} {A:Around} {E:Value->Shared->Prop}
def Inv.big (I:Inv X pins σ H s):sysModules<s.heap.objs.size:=by
 have h:mainGlobals<s.heap.objs.size:=(I.mod.glob.keeps I.bk).lt;exact Hv (by decide) h
def aKp (hu:A.units+1<cLine) (I:Inv X pins σ H s) (g:zQ H a y (some v)) (ry:RelV y u) (h:∀w' s',Inv X pins σ H s'->RelV v w'->Q w' s'):
  wpAny (model X.prog X.w) A (getItem (.ref a) u) Q E s:=by
 rcases g with ⟨kvs,k,e,ey,l⟩|⟨kvs,k,b,e,ey,eb,l⟩
 ·subst ey;obtain⟨z,hd,vs,rel,dd⟩:=aN1 I.hok e;obtain⟨w',hw,rw'⟩:=sX.some_of (v:=v) (o:=valueAt vs k) (by rw [l];exact rel.val k);exact wpAny_getItem_of (aJo ry) dd.mapOf hw (h w' _ (I.tok _) rw')
 ·subst ey;cases (show u=An b from ry);obtain⟨z,hd,xs,rel,dd⟩:=aO1 I.hok e;obtain⟨w',hw,rw'⟩:=sX.some_of (v:=v) (o:=(atKey xs k).map (·.2)) (by rw [l];exact rel.val k);obtain⟨p,hp,hp2⟩:=Option.map_eq_some_iff.mp hw;refine Rz (Sa hu) (aGy I.hok eb) dd hp ?_;rw [hp2];exact h w' _ (I.tok _) rw'
def yK {h':Heap} {t':Nat} {ob:HO} (I:Inv X pins σ H s) (mu:Mut (H a)) (hs:Cw a s.heap h') (he:∃q,h'.get? a=some q) (new:cL X.prog X.w (upd H a ob) h' a ob):
  Inv X pins σ (upd H a ob) {s with heap:=h',toks:=t'}:=
 I.write (x:=a) (e:=a) mu (.inl rfl) (λb q hb z=>(hs.2 b hb).trans z) he new
def aMm {P:Program} {w:World} {H':Hp} {h':Heap} {kvs:List (Key×V)} {vs:List (Key×Value)} (z:kvs.length<=sizeLine) (hd:(a==sysModules)=false) (rel:KV kvs vs) (dd:h'.DictOf (eU P w) a vs):
  cL P w H' h' a (.dK kvs):=⟨z,hd,vs,rel,dd⟩
def aLr {H':Hp} {Q:Unit->Shared->Prop} (hu:A.units+1<cLine) (I:Inv X pins σ H s) (g:aLi H a y v H') (ry:RelV y u) (rv:RelV v r) (h:∀s',Inv X pins σ H' s'->Q () s'):
  wpAny (model X.prog X.w) A (setItem (.ref a) u r) Q E s:=by
 rcases g with ⟨kvs,k,e,ey,l,eH⟩|⟨kvs,k,b,e,ey,eb,l,eH⟩
 ·subst ey eH;obtain⟨z,hd,vs,rel,dd⟩:=aS4 I.hok e;have hz:vs.length<=sizeLine:=by rw [<-rel.length];exact z
  have hl:(putK kvs k v).length<=sizeLine:=by have:=rB kvs k v;omega
  refine wpAny_setItem_pairs (hsz:=hz) (aJo ry) dd λh' dd' hs=>h _ ?_;have he:∃q,h'.get? a=some q:=let⟨q,_,_,hq,_⟩:=dd';⟨q,hq⟩;exact yK I (by rw [e];exact En) hs he (aMm hl hd (rel.put k rv) dd')
 ·subst ey eH;cases (show u=An b from ry);obtain⟨z,hd,xs,rel,dd⟩:=aXj I.hok e;have hz:xs.length<=sizeLine:=by rw [<-Mo rel];exact z
  have hl:(putK kvs k v).length<=sizeLine:=by have:=rB kvs k v;omega
  refine Ry (hsz:=hz) (Sa hu) (aGy I.hok eb) dd λh' dd' hs=>h _ ?_;obtain⟨q,es,ep,hq,h2,h3,h4,_,h5⟩:=dd';refine yK I (by rw [e];exact En) hs ⟨q,hq⟩ ⟨hl,hd,_,(rel.put k eb rv).keeps λc ys ec=>?_,q,es,ep,hq,h2,h3,h4,h5⟩;rw [aM (aZb ec e (λz=>nomatch z))];exact ec
variable {kvs:List (Key×V)} {k:Key}
def aH6 (i:Expr):Prop:=∀ov iv,subscripted i false ov iv=operate [ov,iv] (getItem ov iv)
def aJh {prog:Program} {w:World} {A:Around} {E:Value->Shared->Prop} {s:Shared} {env:Env} {value slice:Expr} {pos:Pos} {T id:String}
  (hl:typeLookup (.type T) "__getitem__"=pure (some (.builtin id))) (hs:aH6 slice)
  (h:wpAny (model prog w) A (eval value env) (λo s₁=>wpAny (model prog w) A (eval slice env) (λi s₂=>s₂.TypeIs o T/\wpAny (model prog w) A (getItem o i) Q E s₂) E s₁) E s):
  wpAny (model prog w) A (eval (.Subscript value slice pos) env) Q E s:=by
 refine Sy (Cq h (λo s₁ h₁=>Cq h₁ (λi s₂ h₂=>?_) λ_ _ x=>x) λ_ _ x=>x);obtain⟨hT,h₂⟩:=h₂;unfold subscriptTail;refine Aa ?_;rw [getitemInPython_of_ne hT.not_modules];refine Aa (Ey hT hl ?_);have fin:wpAny (model prog w) A (subscripted slice false o i) (λr s₃=>wpAny (model prog w) A (letTemporaryGo value o r>>=λ_=>pure r) Q E s₃) E s₂:=by
  rw [hs o i];exact wpAny_operating (Cq h₂ (λr s₃ h₃=>Aa (wpAny_letTemporaryGo (Af h₃))) λ_ _ x=>x)
 first
  |exact Af (Aa fin)
  |exact Aa (Af (Aa fin))
  |exact Aa fin
def aFm {X:Cx} {pins:List (Addr×Obj)} {σ:St} {H:Hp} {s:Shared} {a:Addr} {y:V} {o:Option V} (I:Inv X pins σ H s) (g:zQ H a y o):s.TypeIs (.ref a) "dict":=by
 rcases g with ⟨kvs,k,e,_,_⟩|⟨kvs,k,b,e,_,_,_⟩
 ·obtain⟨_,_,vs,_,dd⟩:=aN1 I.hok e;exact dd.typeIs
 ·obtain⟨_,_,xs,_,dd⟩:=aO1 I.hok e;exact dd.typeIs
def aX4 (td ty:TE):TE:=λσ H Q=>td σ H λx H1=>ty σ H1 λy H2=>∃a v,x= .ref a/\zQ H2 a y (some v)/\Q v H2
def aXx (td ty tv:TE):TS:=λD σ H=>tv σ H λv H1=>td σ H1 λx H2=>ty σ H2 λy H3=>∃a H4,x= .ref a/\aLi H3 a y v H4/\D.nx σ H4
section
variable {X:Cx} {o i e value:Expr} {pos pos' tpos:Pos} {td ty tv:TE}
def aC8 (hu:X.A.units+1<cLine) (ho:PE X o td) (hi:PE X i ty) (hs:aH6 i):PE X (.Subscript o i pos) (aX4 td ty):=by
 intro pins s σ H Q I h;refine aJh PySem.F.slot_dict_getitem.lookup hs (thn (ho pins s σ H _ I h) λu s1 ⟨x,H1,I1,rx,q1⟩=>thn (hi pins s1 σ H1 _ I1 q1) λiv s2 ⟨y,H2,I2,ry,a,v,ex,g,q2⟩=>?_);subst ex;obtain rfl:u=An a:=rx;exact⟨aFm I2 g,aKp hu I2 g ry λw' s3 I3 rw'=>⟨v,H2,I3,rw',q2⟩⟩
def aJs (hu:X.A.units+1<cLine) (ho:PE X o td) (hi:PE X i ty) (hv:PE X value tv) (hs:swapsWith value (some (.Subscript o i pos')) pos.line X.env=pure false):
  PS X (.Assign [.Subscript o i pos'] value pos) (aXx td ty tv):=by
 intro pins s σ H D I h;refine Qa (thn (hv pins s σ H _ I h) λr s1 ⟨v,H1,I1,rv,q1⟩=>thn (ho pins s1 σ H1 _ I1 q1) λu s2 ⟨x,H2,I2,rx,q2⟩=>thn (hi pins s2 σ H2 _ I2 q2) λiv s3 ⟨y,H3,I3,ry,a,H4,ex,g,q3⟩=>?_) hs;subst ex;obtain rfl:u=An a:=rx;exact aLr hu I3 g ry rv λs4 I4=>⟨σ,H4,I4,q3⟩
end
def aPw {P:Program} {w:World} {H:Hp} (h:Heap) (hb:sysModules<h.objs.size):cL P w H (h.push {cls:= .type "dict",data:= .dict #[]}) h.objs.size (.dK []):=
 ⟨Bb _,beq_eq_false_iff_ne.mpr (Cy (Ax hb)),[],.nil,Vy h⟩
variable {pos:Pos}
def aDw:List (TE×TE)->St->Hp->(List (V×V)->Hp->Prop)->Prop
 | [],_,H,Q=>Q [] H
 |(tk,tv)::r,σ,H,Q=>tk σ H λx H1=>tv σ H1 λy H2=>aDw r σ H2 λps H3=>Q ((x,y)::ps) H3
abbrev VV:List (V×V)->List (Value×Value)->Prop:=Paired λp q=>RelV p.1 q.1/\RelV p.2 q.2
def PPs (X:Cx) (pos:Pos) (keys:List (Option Expr)) (values:List Expr) (trs:List (TE×TE)):Prop:=
 ∀(pins:List (Addr×Obj)) (s:Shared) (σ:St) (H:Hp) (Q:List (V×V)->Hp->Prop),Inv X pins σ H s->aDw trs σ H Q->
  wpAny (model X.prog X.w) X.A (evalPairs (pairTrees keys values X.env pos)) (λvs s'=>∃ps H',Inv X pins σ H' s'/\VV ps vs/\Q ps H') X.xe s
def aQ0 {X:Cx} {pos:Pos}:PPs X pos [] [] []:=λpins s σ H Q I h=>pairTrees_nil_walk ⟨[],H,I,.nil,h⟩
def aP9 {X:Cx} {pos:Pos} {k v:Expr} {ks:List (Option Expr)} {vs:List Expr} {tk tv:TE} (hk:PE X k tk) (hv:PE X v tv) (hr:PPs X pos ks vs trs):
  PPs X pos (some k::ks) (v::vs) ((tk,tv)::trs):=λpins s σ H Q I h=>
 pairTrees_cons_walk (thn (hk pins s σ H _ I h) λu s1 ⟨x,H1,I1,rx,q1⟩=>thn (hv pins s1 σ H1 _ I1 q1) λw2 s2 ⟨y,H2,I2,ry,q2⟩=>
  thn (hr pins s2 σ H2 _ I2 q2) λws s3 ⟨ps,H3,I3,rel,q3⟩=>⟨(x,y)::ps,H3,I3,.cons ⟨rx,ry⟩ rel,q3⟩)
def qX (kvs more:List (Key×V)):List (Key×V):=more.foldl (λacc kv=>putK acc kv.1 kv.2) kvs
def KV.merge:∀{more:List (Key×V)} {rs:List (Key×Value)} {kvs:List (Key×V)} {vs:List (Key×Value)},KV more rs->KV kvs vs->KV (qX kvs more) (merged vs rs):=by
 intro more rs kvs vs r;unfold KV at r;induction r generalizing kvs vs with
 |nil=>intro q;exact q
 |@cons p q ps qs h t ih=>
  intro r0;have e:KV (putK kvs p.1 p.2) (stored vs q.1 q.2):=by
   have:=r0.put p.1 h.2;rw [<-h.1];exact this
  exact ih e
theorem tM:∀(more kvs:List (Key×V)),(qX kvs more).length<=kvs.length+more.length
 | [],kvs=>by show kvs.length<=kvs.length+0;omega
 |p::r,kvs=>by
  have h1:=tM r (putK kvs p.1 p.2);have h2:=rB kvs p.1 p.2;show(qX (putK kvs p.1 p.2) r).length<=_;rw [Ah];omega
theorem zZ {P:Program} {w:World}:∀{kvs:List (Key×V)} {ws:List (Value×Value)},VV (kvs.map λkv=>(kV kv.1,kv.2)) ws->∃rs,Carries (eU P w) ws rs/\KV kvs rs
 | [],_,r=>by rw [Dn]at r;cases r;exact⟨[],En,.nil⟩
 |p::kvs,_,r=>by
  rw [Aw]at r;cases r with
  |@cons a b as bs h t=>
   obtain⟨rs,c,q⟩:=zZ (P:=P) (w:=w) t;obtain⟨b1,b2⟩:=b;exact⟨(p.1,b2)::rs,⟨aJo h.1,rfl,c⟩,.cons ⟨rfl,h.2⟩ q⟩
def aYg (trs:List (TE×TE)):TE:=λσ H Q=>∀p,H p=none->aDw trs σ (upd H p (.dK [])) λps H2=>H2 p=some (.dK [])/\∃kvs:List (Key×V),ps=kvs.map (λkv=>(kV kv.1,kv.2))/\kvs.length<=15/\Q (.ref p) (upd H2 p (.dK (qX [] kvs)))
def aR3 {X:Cx} {pos:Pos} {keys:List (Option Expr)} {values:List Expr} (h:PPs X pos keys values trs) (hall:keys.all (·.isSome)=true) (hl:keys.length=values.length) (h0:keys≠[])
  (h15:keys.length<=15):PE X (.Dict keys values pos) (aYg trs):=by
 intro pins s σ H Q I q;have hn:=I.hok.fresh (Am s.heap.objs.size);have I1:=I.laid (a:=s.heap.objs.size) (o:= .dK []) (h':=s.heap.push {cls:= .type "dict",data:= .dict #[]}) (t':=s.toks) (λ_ _ q=>Ai _ q) (Am _) (aPw s.heap I.big);refine wpAny_Dict_walk (knd:=eU X.prog X.w) hall hl h0 h15 (thn (h pins _ σ _ _ I1 (q _ hn)) λws s2 ⟨ps,H2,I2,rel,e,kvs,ep,lk,q2⟩=>?_);subst ep;obtain⟨rs,c,rk⟩:=zZ (P:=X.prog) (w:=X.w) rel;obtain⟨z,hd,vs0,r0,dd⟩:=aS4 I2.hok e;cases r0;refine⟨rs,c,dd,λh' dd' hs=>⟨.ref s.heap.objs.size,_,?_,rfl,q2⟩⟩;have hz:(qX [] kvs).length<=sizeLine:=by
  have h1:=tM kvs [];rw [Be]at h1;rw [Cr];omega
 have he:∃q,h'.get? s.heap.objs.size=some q:=let⟨q,_,_,hq,_⟩:=dd';⟨q,hq⟩;exact yK I2 (by rw [e];exact En) hs he (aMm hz hd (rk.merge .nil) dd')
variable {y d:V}
section
variable {X:Cx} {o e f:Expr} {apos cpos:Pos} {td ty tx:TE}
end
section
variable {κ:Type} [DecidableEq κ]
end
end L2
namespace PySem
variable {Q:Bool->Shared->Prop} {owner:Array (Option Nat)} {xs:Array Nat} {a:Addr} {M:Nat} {j:Nat} {h h':Heap} {α:Type} {hs:List Int} {e:Nat} {n:Nat} {N:Nat}
open AutoSeq1 (wpAny_loadPart')
open Sem (wp)
variable {prog:Program} {w:World} {A:Around} {E:Value->Shared->Prop} {s:Shared}
section
variable {prog:Program} {w:World} {K:Type} [DecidableEq K] (knd:KeyKind prog w K)
def bI (h:Heap) (x:K×List K) (a:Addr):Prop:=∃o v b n,h.get? a=some o/\o.cls= .type "tuple"/\o.data= .seq #[v,.ref b] n/\knd.is x.1 v=true/\IsTupleKey knd h x.2 b
def rD (x:K×List K):Int:=reduceHash (Dm [knd.hash x.1,tupleKeyHash knd x.2])
variable {knd}
def bI.typeIs {s:Shared} {x:K×List K} (h:bI knd s.heap x a):s.TypeIs (.ref a) "tuple":=let⟨o,_,_,_,ho,hc,_⟩:=h;⟨o,ho,hc⟩
def bI.inj {h:Heap} {x y:K×List K} (hx:bI knd h x a) (hy:bI knd h y a):x=y:=by
 obtain⟨o,v,b,n,ho,_,hd,h1,h2⟩:=hx;obtain⟨o',v',b',n',ho',_,hd',h1',h2'⟩:=hy;obtain rfl:o=o':=Bl (ho.symm.trans ho');rw [hd]at hd';injection hd' with e _
 have e1:v=v'/\b=b':=by simpa using e
 obtain⟨rfl,rfl⟩:=e1;exact Pt (knd.inj _ _ _ h1 h1') (h2.inj h2')
def bI.keeps {x:K×List K} {a d:Addr} {o:Obj} {es ep} (hx:bI knd h x a) (ho:h.get? d=some o) (hd:o.data= .dict es ep) (hs:Cw d h h'):bI knd h' x a:=by
 obtain⟨o',v,b,n,ho',hc,hd',h1,h2⟩:=hx;have hne:a≠d:=by
  rintro rfl;obtain rfl:o'=o:=Bl (ho'.symm.trans ho);rw [hd]at hd';exact nomatch hd'
 exact⟨o',v,b,n,(hs.2 a hne).trans ho',hc,hd',h1,h2.keeps ho hd hs⟩
variable {A:Around} {E:Value->Shared->Prop} {s:Shared}
def vD {x:K×List K} {Q:Int->Shared->Prop} (hu:A.units+1<cLine) (hk:bI knd s.heap x a) (h:Q (rD knd x) {s with toks:=s.toks+(x.2.length+3)}):
  wpAny (model prog w) A (pyHash (.ref a)) Q E s:=by
 have hT:=hk.typeIs
 obtain⟨o,v,b,n,ho,_,hd,h1,h2⟩:=hk
 unfold pyHash
 first|unfold pyHashByItsType|skip
 first|refine Aa (wpAny_cRoomFor_or (.inr (by omega)) ?_)|skip
 refine Aa (Ey hT F.slot_tuple_hash.lookup ?_)
 show wpAny _ _ (if(some (Rn "tuple.__hash__")==some Ce)=true then _ else _) Q E s
 rw [if_neg (by rw [beq_builtin_none];exact Aj)]
 refine Aa (Ey hT F.slot_tuple_hash.lookup ?_)
 show wpAny _ _ (callSpecialIfBoundUnlessNone? (.ref a) "__hash__" _>>=_) Q E s
 refine Aa (wpAny_callSpecialIfBoundUnlessNone?_slot hT Rw (Dg Rw hT F.entry_tuple_hash ?_ (F.args_tuple_hash_1 _)))
 show wpAny _ _ (Ua (.ref a)>>=_) _ _ s
 refine Aa (Gr ho hd ?_)
 refine Aa ?_
 rw [<-Eo]
 refine Ef _
  (λrest (r:Array Int) s'=>(rest=[v,.ref b]/\r= #[]/\s'=s)∨(rest=[.ref b]/\r= #[knd.hash x.1]/\s'={s with toks:=s.toks+1})∨(rest=[]/\r= #[knd.hash x.1,tupleKeyHash knd x.2]/\s'={s with toks:=s.toks+1+(x.2.length+1)}))
  _ ?_ ?_ _ _ (.inl ⟨rfl,rfl,rfl⟩)
 ·rintro y rest r s' (⟨e,rfl,rfl⟩|⟨e,rfl,rfl⟩|⟨e,_,_⟩)
  ·obtain⟨rfl,rfl⟩:=Bp e
   refine Aa (knd.pyHash h1 ?_)
   exact Af (.inr (.inl ⟨rfl,rfl,rfl⟩))
  ·obtain⟨rfl,rfl⟩:=Bp e
   refine Aa (wpAny_pyHash_tuple (show A.in1.units<cLine from hu) h2 ?_)
   exact Af (.inr (.inr ⟨rfl,rfl,rfl⟩))
  ·cases e
 ·rintro r s' (⟨e,_,_⟩|⟨e,_,_⟩|⟨_,rfl,rfl⟩)
  ·cases e
  ·cases e
  ·show wpAny _ _ (retInt (Dm [knd.hash x.1,tupleKeyHash knd x.2])) _ _ _
   refine wpAny_ret_mkInt ?_
   show wpAny _ _ (if(decide (-(2:Int) ^ 63<=Dm [knd.hash x.1,tupleKeyHash knd x.2]) && decide (Dm [knd.hash x.1,tupleKeyHash knd x.2]<2 ^ 63))=true then _ else _) Q E _
   have et:s.toks+1+(x.2.length+1)+1=s.toks+(x.2.length+3):=by omega
   unfold rD reduceHash at h
   by_cases hr:(decide (-(2:Int) ^ 63<=Dm [knd.hash x.1,tupleKeyHash knd x.2]) && decide (Dm [knd.hash x.1,tupleKeyHash knd x.2]<2 ^ 63))=true
   ·rw [if_pos hr]
    rw [if_pos hr, <-et]at h
    exact Af h
   ·rw [if_neg hr]
    rw [if_neg hr, <-et]at h
    exact Aa (Iy (Af h))
def aDf {x y:K×List K} {a b:Addr} {P:Fin->Shared->Prop} (hu:A.units<cLine) (hx:bI knd s.heap x a) (hy:bI knd s.heap y b) (h:P (.done (.ret (.bool (decide (x=y))))) s):
  wpAny (model prog w) A (Builtin.«tuple.__eq__» ⟨[.ref a,.ref b],[]⟩) P E s:=by
 have hTb:=hy.typeIs;obtain⟨oa,va,ba,na,hoa,_,hda,h1,h2⟩:=hx;obtain⟨ob,vb,bb,nb,hob,_,hdb,h1',h2'⟩:=hy;show wpAny _ _ (isInstance (.ref b) (.type "tuple")>>=_) _ _ s;refine Aa (Fh hTb Hk ?_);simp only [Br,Ao,if_false];refine Aa (Gr hoa hda ?_);refine Aa (Gr hob hdb ?_);refine Aa ?_;refine Ef _
  (λrest r s'=>r.1=none/\s'=s/\((rest=[(va,vb),(.ref ba,.ref bb)])∨(rest=[(.ref ba,.ref bb)]/\x.1=y.1)∨(rest=[]/\x=y)))
  _ ?_ ?_ _ _ ⟨rfl,rfl,.inl rfl⟩
 ·rintro⟨u,v⟩ rest r s' ⟨hr,rfl,(e|⟨e,e1⟩|⟨e,_⟩)⟩
  ·obtain⟨e2,rfl⟩:=Bp e;cases e2;refine Aa (knd.eqBool (a:=x.1) (b:=y.1) h1 h1' ?_);by_cases hk:x.1=y.1
   ·rw [decide_eq_true hk];simp only [Br,Ao,if_false];exact Af ⟨by first|rfl|trivial,by first|rfl|trivial,by first|exact .inr (.inl ⟨rfl,hk⟩)|simp [hk]⟩
   ·rw [decide_eq_false hk];simp only [Gw,if_true];have hf:decide (x=y)=false:=decide_eq_false λz=>hk (by rw [z]);rw [hf]at h;exact Aa (Af (Af (Af h)))
  ·obtain⟨e2,rfl⟩:=Bp e;cases e2;refine Aa (wpAny_eqBool_tuple hu h2 h2' ?_);by_cases hk:x.2=y.2
   ·rw [decide_eq_true hk];simp only [Br,Ao,if_false];exact Af ⟨by first|rfl|trivial,by first|rfl|trivial,by first|exact .inr (.inr ⟨rfl,Pt e1 hk⟩)|simp [e1,hk,Prod.ext_iff]⟩
   ·rw [decide_eq_false hk];simp only [Gw,if_true];have hf:decide (x=y)=false:=decide_eq_false λz=>hk (by rw [z]);rw [hf]at h;exact Aa (Af (Af (Af h)))
  ·cases e
 ·rintro⟨r1,r2⟩ s' ⟨hr,rfl,(e|⟨e,_⟩|⟨_,e⟩)⟩
  ·cases e
  ·cases e
  ·simp only at hr;subst hr;refine Af ?_;rw [decide_eq_true e]at h;exact h
def uO {x y:K×List K} {a b:Addr} (hu:A.units+1<cLine) (hx:bI knd s.heap x a) (hy:bI knd s.heap y b) (h:Q (decide (x=y)) s):
  wpAny (model prog w) A (eqBool (.ref a) (.ref b)) Q E s:=by
 unfold eqBool
 try with_reducible refine By ?_
 show wpAny _ _ (if(An a==An b)=true then _ else _) Q E s;by_cases hab:(An a==An b)=true
 ·rw [if_pos hab];have e:a=b:=by have:=eq_of_beq hab;injection this
  subst e;obtain rfl:=hx.inj hy;exact Aa (Iy (Af (by simpa using h)))
 ·rw [if_neg hab];exact Aa (Nn (op:= .Eq) hx.typeIs hy.typeIs Tv
   (Dg Tv hx.typeIs F.entry_tuple_eq (aDf (by show A.units+1<cLine;exact hu) hx hy ⟨_,rfl,(λe=>nomatch e),Ck h⟩) (F.args_tuple_eq_2 _ _)) (by omega))
def pC {ks:List K} (hk:IsTupleKey knd s.heap ks a) (h:Q true s):wpAny (model prog w) A (eqIsQuiet (n+1) (.ref a)) Q E s:=by
 have hT:=hk.typeIs;obtain⟨o,items,m,ho,_,hd,hi⟩:=hk;unfold eqIsQuiet;refine Aa (Ey hT F.slot_tuple_eq.lookup ?_);show wpAny _ _ (isInstance (.ref a) (.type "tuple")>>=_) _ _ s;refine Aa (Fh hT Hk ?_);simp only [Br,Ao,if_false];refine Aa (Ew ho hd ?_);refine Aa ?_;show wpAny _ _ (forIn items _ _) _ _ s;rw [<-Eo];refine Ef _ (λrest r s'=>r.1=none/\s'=s/\∀v∈rest,carriedByValue v=true) _ ?_ ?_ _ _ ⟨rfl,rfl,hi.byValue⟩
 ·rintro v rest r s' ⟨hr,rfl,hall⟩;rw [Sv _ (hall v Ae)];refine Aa (Af ?_);simp only [Br,Ao,if_false];exact Af ⟨rfl,rfl,λu hu'=>hall u (Ad _ hu')⟩
 ·rintro⟨r1,r2⟩ s' ⟨hr,rfl,_⟩;simp only at hr;subst hr;exact Af h
def rG {x:K×List K} (hk:bI knd s.heap x a) (h:Q true s):wpAny (model prog w) A (eqIsQuiet 8 (.ref a)) Q E s:=by
 have hT:=hk.typeIs;obtain⟨o,v,b,m,ho,_,hd,h1,h2⟩:=hk;unfold eqIsQuiet;refine Aa (Ey hT F.slot_tuple_eq.lookup ?_);show wpAny _ _ (isInstance (.ref a) (.type "tuple")>>=_) _ _ s;refine Aa (Fh hT Hk ?_);simp only [Br,Ao,if_false];refine Aa (Ew ho hd ?_);refine Aa ?_;show wpAny _ _ (forIn _ _ _) _ _ s;rw [<-Eo];refine Ef _ (λrest r s'=>r.1=none/\s'=s/\∀u∈rest,u=v∨u= .ref b) _ ?_ ?_ _ _ ⟨rfl,rfl,λu hu=>by simpa using hu⟩
 ·rintro u rest r s' ⟨hr,rfl,hall⟩;rcases hall u Ae with rfl|rfl
  ·rw [Sv _ (knd.byValue _ _ h1)];refine Aa (Af ?_);simp only [Br,Ao,if_false];exact Af ⟨rfl,rfl,λu hu'=>hall u (Ad _ hu')⟩
  ·refine Aa (pC h2 ?_);simp only [Br,Ao,if_false];exact Af ⟨rfl,rfl,λu hu'=>hall u (Ad _ hu')⟩
 ·rintro⟨r1,r2⟩ s' ⟨hr,rfl,_⟩;simp only at hr;subst hr;exact Af h
end
def dZ {prog:Program} {w:World} {K:Type} [DecidableEq K] (knd:KeyKind prog w K):HeapKind prog w (K×List K) where
 is:=bI knd
 hash:=rD knd
 draws:=λx=>x.2.length+3
 room:=λA=>A.units+1<cLine
 inj:=λhx hy=>hx.inj hy
 keeps:=λx ho hd hs=>x.keeps ho hd hs
 pyHash:=λhu hk h=>vD hu hk h
 eqBool:=λhu hx hy h=>uO hu hx hy h
 quiet:=λhk h=>rG hk h
namespace SetTable
def gO (mask:Nat):Nat->Nat×Nat->Nat×Nat
 |0,p=>p
 |m+1,p=>gO mask m (leap mask p.1 p.2)
theorem tQ (mask:Nat):∀m p,(gO mask m p).2=p.2 / 32 ^ m
 |0,p=>by rw [gO,Nat.pow_zero,Nat.div_one]
 |m+1,p=>by
  rw [gO,tQ mask m];show p.2 / 32 / 32 ^ m=_;rw [Nat.div_div_eq_div_mul,Vc,Nat.mul_comm]
theorem aB2 (mask:Nat):∀m k p,gO mask (m+k) p=gO mask k (gO mask m p)
 |0,k,p=>by rw [Jj,gO]
 |m+1,k,p=>by rw [Vb,gO,aB2 mask m k,gO]
def five (mask i:Nat):Nat:=(i*5+1) % (mask+1)
def aGc (mask:Nat):Nat->Nat->Nat
 |0,i=>i
 |m+1,i=>aGc mask m (five mask i)
theorem zX (mask:Nat):∀m i,(gO mask m (i,0))=(aGc mask m i,0)
 |0,i=>rfl
 |m+1,i=>by
  rw [gO,aGc];show gO mask m ((i*5+1+0 / 32) % (mask+1),0 / 32)=_;rw [Nat.zero_div,Nat.add_zero];exact zX mask m (five mask i)
theorem aF0 (mask:Nat):∀m p,(gO mask (m+1) p).1<=mask
 |0,p=>by
  show(p.1*5+1+p.2 / 32) % (mask+1)<=mask;have:=Ku (p.1*5+1+p.2 / 32) (show 0<mask+1 by omega);omega
 |m+1,p=>by rw [gO];exact aF0 mask m _
def Round (mask:Nat):Prop:=∀i,i<=mask->∀e,e<=mask->∃k,k<=mask/\aGc mask (k+1) i=e
def aGf {mask:Nat} (h:∀i:_root_.Fin (mask+1),∀e:_root_.Fin (mask+1),∃k:_root_.Fin (mask+1),aGc mask (k.1+1) i.1=e.1):Round mask:=λi hi e he=>by
 obtain⟨k,hk⟩:=h ⟨i,by omega⟩ ⟨e,by omega⟩;exact⟨k.1,by omega,hk⟩
def aWh:Round 7:=aGf (by decide+kernel)
def aRb:Round 31:=aGf (by decide+kernel)
def aAd {mask:Nat} (R:Round mask) (he:e<=mask) (i perturb:Nat) (hp:perturb<2 ^ 64):∃L,1<=L/\L<=mask+14/\(gO mask L (i,perturb)).1=e:=by
 have h13:(gO mask 13 (i,perturb)).2=0:=by
  rw [tQ];exact Nat.div_eq_of_lt (Bf hp (by decide))
 have hi:=aF0 mask 12 (i,perturb);obtain⟨k,hk,e1⟩:=R _ hi e he;refine⟨13+(k+1),by omega,by omega,?_⟩;rw [aB2];have e2:gO mask 13 (i,perturb)=((gO mask 13 (i,perturb)).1,0):=Pt rfl h13;rw [e2,zX];exact e1
variable {t:SetTable} {hashAt:Nat->Int} {h:Int}
def aMy (mask i:Nat):runEnd mask i-i<=9:=by unfold runEnd;split<;>omega
def aSc (hd:∀j,t.slot j≠ .dummy) (he:t.slot e= .empty):∀(fuel:Nat) (p:Probe) (L:Nat),1<=L->(gO t.mask L (p.i,p.perturb)).1=e->p.more+2+10*(L-1)<=fuel->∃m,Hs t hashAt h fuel p=some m:=by
 intro fuel;induction fuel with
 |zero=>intro p L h1 _ h3;omega
 |succ fuel ih=>
  intro p L h1 h2 h3;have step:∃m,Hs t hashAt h fuel (t.advance p)=some m:=by
   unfold advance;by_cases hm:p.more>0
   ·rw [if_pos hm];exact ih _ L h1 h2 (by show p.more-1+2+10*(L-1)<=fuel;omega)
   ·rw [if_neg hm];match L,h1 with
    |1,_=>
     have h4:(leap t.mask p.i p.perturb).1=e:=h2;cases fuel with
     |zero=>omega
     |succ f=>
      show∃m,(match t.slot (leap t.mask p.i p.perturb).1 with| .empty=>_| .dummy=>_| .live i=>_)=some m;rw [h4,he];exact⟨_,rfl⟩
    |L+2,_=>
     have hr:=aMy t.mask (leap t.mask p.i p.perturb).1;exact ih _ (L+1) (by omega) h2 (by show runEnd t.mask (leap t.mask p.i p.perturb).1-(leap t.mask p.i p.perturb).1+2+10*(L+1-1)<=fuel;omega)
  show∃m,(match t.slot p.j with| .empty=>some (.empty p.j p.dummy)| .dummy=>Hs t hashAt h fuel (t.advance {p with dummy:=some p.j})| .live i=>if(hashAt i==h)=true then some (.candidate p.j i (t.advance p))else Hs t hashAt h fuel (t.advance p))=some m;cases hs:t.slot p.j with
  |empty=>exact⟨_,rfl⟩
  |dummy=>exact absurd hs (hd _)
  |live i=>
   by_cases hh:(hashAt i==h)=true
   ·exact⟨_,if_pos hh⟩
   ·obtain⟨m,hm⟩:=step;exact⟨m,by simp only;rw [if_neg hh];exact hm⟩
def aHc (R:Round t.mask) (he:e<=t.mask) (hd:∀j,t.slot j≠ .dummy) (hs:t.slot e= .empty) (p:Probe) (hp:p.perturb<2 ^ 64) (hm:p.more<=9):∃m,t.probe hashAt h p=some m:=by
 obtain⟨L,h1,h2,h3⟩:=aAd R he p.i p.perturb hp;refine aSc hd hs _ p L h1 h3 ?_;unfold turns;omega
def uE (xs:Array Nat):Prop:=∀i k,i<k->k<xs.size->xs.getD i 0<xs.getD k 0
def zY {i a b:Nat} (h:i<xs.size):xs.getD i a=xs.getD i b:=by simp [Eu,h]
def aMz (R:uE xs):∀(fuel lo hi:Nat),lo<=hi->hi<=xs.size->hi-lo<=fuel->(∀i,i<lo->xs.getD i 0<j)->(∀i,hi<=i->i<xs.size->j<=xs.getD i 0)->
  Ky xs j fuel lo hi<=xs.size/\(∀i,i<Ky xs j fuel lo hi->xs.getD i 0<j)/\∀i,Ky xs j fuel lo hi<=i->i<xs.size->j<=xs.getD i 0:=by
 intro fuel;induction fuel with
 |zero=>
  intro lo hi h1 h2 h3 a b;have:lo=hi:=by omega
  subst this;exact⟨h2,a,b⟩
 |succ fuel ih=>
  intro lo hi h1 h2 h3 a b;have key:Ky xs j (fuel+1) lo hi=if lo<hi then(if xs.getD ((lo+hi) / 2) j<j then Ky xs j fuel ((lo+hi) / 2+1) hi else Ky xs j fuel lo ((lo+hi) / 2))else lo:=rfl
  rw [key];by_cases hl:lo<hi
  ·have hm:(lo+hi) / 2<xs.size:=by omega
   rw [if_pos hl];by_cases hx:xs.getD ((lo+hi) / 2) j<j
   ·rw [if_pos hx];refine ih _ _ (by omega) h2 (by omega) (λi hi'=>?_) b;by_cases e:i=(lo+hi) / 2
    ·subst e;rw [zY hm (b:=j)];exact hx
    ·have:=R i ((lo+hi) / 2) (by omega) hm;rw [zY hm (b:=j)]at this;omega
   ·rw [if_neg hx];refine ih _ _ (by omega) (by omega) (by omega) a λi hi' hs=>?_;rw [zY hm (b:=0)]at hx;by_cases e:i=(lo+hi) / 2
    ·subst e;omega
    ·have:=R ((lo+hi) / 2) i (by omega) hs;omega
  ·have:lo=hi:=by omega
   subst this;rw [if_neg hl];exact⟨h2,a,b⟩
def gY (R:uE xs) (j:Nat):below xs j<=xs.size/\(∀i,i<below xs j->xs.getD i 0<j)/\∀i,below xs j<=i->i<xs.size->j<=xs.getD i 0:=
 aMz R _ _ _ (Bb _) (Am _) (by omega) (λi h=>absurd h (Dl i)) λi h1 h2=>by omega
def below_at (R:uE xs) {i:Nat} (h:i<xs.size):below xs (xs.getD i 0)=i:=by
 obtain⟨_,h2,h3⟩:=gY R (xs.getD i 0);rcases Ij (below xs (xs.getD i 0)) i with z|z|z
 ·have:=h3 (below xs (xs.getD i 0)) (Am _) (by omega);have:=R _ i z h;omega
 ·exact z
 ·have:=h2 i z;omega
def aMo {i j:Nat}:xs[i]? =some j↔i<xs.size/\xs.getD i 0=j:=by
 by_cases h:i<xs.size
 ·simp [Eu,h]
 ·simp [h]
def aCf (R:uE t.place) {i j:Nat} (h:t.place[i]? =some j):t.slot j= .live i:=by
 obtain⟨h1,rfl⟩:=aMo.mp h;unfold slot;dsimp only;rw [below_at R h1,h];simp
def aIm (hd:t.dummies= #[]) (h:∀i:Nat,t.place[i]? ≠some j):t.slot j= .empty:=by
 unfold slot;dsimp only;have h1:(t.place[below t.place j]? ==some j)=false:=beq_eq_false_iff_ne.mpr (h _);rw [h1];have h2:has t.dummies j=false:=by rw [hd];unfold has;simp
 rw [h2];rfl
def uF (hd:t.dummies= #[]) (j:Nat):t.slot j= .empty∨∃i:Nat,t.slot j= .live i/\t.place[i]? =some j:=by
 by_cases h:t.place[below t.place j]? =some j
 ·refine .inr ⟨below t.place j,?_,h⟩;unfold slot;dsimp only;rw [h];simp
 ·refine .inl ?_;unfold slot;dsimp only;have h1:(t.place[below t.place j]? ==some j)=false:=beq_eq_false_iff_ne.mpr h;rw [h1];have h2:has t.dummies j=false:=by rw [hd];unfold has;simp
  rw [h2];rfl
def pM (hd:t.dummies= #[]) (j:Nat):t.slot j≠ .dummy:=by
 rcases uF hd j with e|⟨i,e,_⟩<;>rw [e]<;>intro z<;>cases z
def aHo (hd:t.dummies= #[]) (hs:t.place.size<=t.mask):∃e,e<=t.mask/\t.slot e= .empty:=by
 refine Hm λno=>?_;have all:∀e,e<=t.mask->∃i:Nat,t.place[i]? =some e:=λe he=>by
  rcases uF hd e with z|⟨i,_,z⟩
  ·exact absurd ⟨e,he,z⟩ no
  ·exact⟨i,z⟩
 have sub:Bq (t.mask+1) ⊆ t.place.toList:=λe he=>by
  obtain⟨i,hi⟩:=all e (by have:=List.mem_range.mp he;omega);obtain⟨h1,h2⟩:=Array.getElem?_eq_some_iff.mp hi;rw [<-h2];simp
 have:=(Fy (n:=t.mask+1)).length_le_of_subset sub;rw [Df,As]at this;omega
def aEy (R:Round t.mask) (hd:t.dummies= #[]) (hs:t.place.size<=t.mask) (p:Probe) (hp:p.perturb<2 ^ 64) (hm:p.more<=9):∃m,t.probe hashAt h p=some m:=by
 obtain⟨e,he,h1⟩:=aHo hd hs;exact aHc R he (pM hd) h1 p hp hm
def adv (mask:Nat) (p:Probe):Probe:=if p.more>0 then{p with j:=p.j+1,more:=p.more-1}else{p with j:=(leap mask p.i p.perturb).1,more:=runEnd mask (leap mask p.i p.perturb).1-(leap mask p.i p.perturb).1,i:=(leap mask p.i p.perturb).1,perturb:=(leap mask p.i p.perturb).2}
def advs (mask:Nat):Nat->Probe->Probe
 |0,p=>p
 |n+1,p=>advs mask n (adv mask p)
theorem rF (mask:Nat):∀m k p,advs mask (m+k) p=advs mask k (advs mask m p)
 |0,k,p=>by rw [Jj,advs]
 |m+1,k,p=>by rw [Vb,advs,rF mask m k,advs]
def aCo (mask:Nat) (p:Probe):(adv mask p).dummy=p.dummy:=by unfold adv;split<;>rfl
def aSl (fuel:Nat) (p:Probe):Hs t hashAt h (fuel+1) p=match t.slot p.j with| .empty=>some (.empty p.j p.dummy)| .dummy=>Hs t hashAt h fuel (t.advance {p with dummy:=some p.j})| .live i=>if(hashAt i==h)=true then some (.candidate p.j i (t.advance p))else Hs t hashAt h fuel (t.advance p):=rfl
def aRe (hd:∀j,t.slot j≠ .dummy):∀(fuel:Nat) (p:Probe) (N:Nat),t.slot (advs t.mask N p).j= .empty->N<fuel->p.dummy=none->
    ∃n,n<=N/\(∀m,m<n->∃i,t.slot (advs t.mask m p).j= .live i/\hashAt i≠h)/\
      ((t.slot (advs t.mask n p).j= .empty/\Hs t hashAt h fuel p=some (.empty (advs t.mask n p).j none))∨
       ∃i,t.slot (advs t.mask n p).j= .live i/\hashAt i=h/\Hs t hashAt h fuel p=some (.candidate (advs t.mask n p).j i (advs t.mask (n+1) p))):=by
  intro fuel;induction fuel with
  |zero=>intro p N _ h2;omega
  |succ fuel ih=>
    intro p N h1 h2 h3;rw [aSl];cases hs:t.slot p.j with
    |empty=>exact⟨0,Bb _,λm hm=>absurd hm (Dl m),.inl ⟨hs,by rw [h3];rfl⟩⟩
    |dummy=>exact absurd hs (hd _)
    |live i=>
      by_cases hh:hashAt i=h
      · exact⟨0,Bb _,λm hm=>absurd hm (Dl m),.inr ⟨i,hs,hh,by dsimp only;rw [if_pos (beq_iff_eq.mpr hh)];rfl⟩⟩
      · cases N with
        |zero=>
          have h1':t.slot p.j= .empty:=h1;rw [hs]at h1';cases h1'
        |succ N=>
          obtain⟨n,a1,a2,a3⟩:=ih (adv t.mask p) N h1 (by omega) (by rw [aCo];exact h3);have hb:¬(hashAt i==h)=true:=λz=>hh (beq_iff_eq.mp z);refine⟨n+1,by omega,λm hm=>?_,?_⟩
          · cases m with
            |zero=>exact⟨i,hs,hh⟩
            |succ m=>exact a2 m (by omega)
          · rcases a3 with ⟨b1,b2⟩|⟨i',b1,b2,b3⟩
            · exact .inl ⟨b1,by dsimp only;rw [if_neg hb];exact b2⟩
            · exact .inr ⟨i',b1,b2,by dsimp only;rw [if_neg hb];exact b3⟩
def aMg (hn:∀i,hashAt i≠h) (hd:∀j,t.slot j≠ .dummy):∀(fuel:Nat) (p:Probe) (m:Met),Hs t hashAt h fuel p=some m->∃N,N<fuel/\t.slot (advs t.mask N p).j= .empty:=by
 intro fuel;induction fuel with
 |zero=>intro p m e;cases e
 |succ fuel ih=>
  intro p m e;rw [aSl]at e;cases hs:t.slot p.j with
  |empty=>exact⟨0,Jk _,hs⟩
  |dummy=>exact absurd hs (hd _)
  |live i=>
   rw [hs]at e;dsimp only at e;rw [if_neg (λz=>hn i (beq_iff_eq.mp z))]at e;obtain⟨N,h1,h2⟩:=ih _ _ e;exact⟨N+1,by omega,h2⟩
def aHr (R:Round t.mask) (hd:t.dummies= #[]) (hs:t.place.size<=t.mask) (p:Probe) (hp:p.perturb<2 ^ 64) (hm:p.more<=9):∃N,N<10*turns t.mask/\t.slot (advs t.mask N p).j= .empty:=by
 obtain⟨m,e⟩:=aEy (hashAt:=λ_=>1) (h:=0) R hd hs p hp hm;exact aMg (hashAt:=λ_=>1) (h:=0) (λ_=>by decide) (pM hd) _ p m e
def aFk (t:SetTable) (h:Int):(t.probeStart h).perturb<2 ^ 64/\(t.probeStart h).more<=9:=by
 refine⟨?_,aMy _ _⟩;show bits h<2 ^ 64;unfold bits;have h1:=Gm h (show((2:Int) ^ 64)≠0 by decide);have h2:=Ff h (show(0:Int)<2 ^ 64 by decide);omega
def rR (t:SetTable) (h:Int) (j:Nat):Prop:=∃n,(advs t.mask n (t.probeStart h)).j=j/\∀m,m<n->t.slot (advs t.mask m (t.probeStart h)).j≠ .empty
def rR.ahead {j N:Nat} (w:rR t h j) (hj:t.slot j≠ .empty) (hN:t.slot (advs t.mask N (t.probeStart h)).j= .empty):∃n,n<N/\(advs t.mask n (t.probeStart h)).j=j:=by
 obtain⟨n,e,a⟩:=w;rcases Ij n N with z|z|z
 ·exact⟨n,z,e⟩
 ·subst z;rw [e]at hN;exact absurd hN hj
 ·exact absurd hN (a N z)
def eZ (xs:Array α) (p:Nat) (x:α):(insertAt xs p x).toList=xs.toList.take p++x::xs.toList.drop p:=by
 unfold insertAt;simp [Array.toList_extract];exact Fb (by simp)
def uY:uE xs↔xs.toList.Pairwise (·<·):=by
 rw [Mp];constructor
 ·intro R i k hi hk hik;have h2:k<xs.size:=by simpa using hk
  have:=R i k hik h2;have h1:i<xs.size:=by omega
  simpa [Eu,h1,h2]using this
 ·intro R i k hik hk;have h1:i<xs.size:=by omega
  have:=R i k (by simpa using h1) (by simpa using hk) hik;simpa [Eu,h1,hk]using this
def aKt:(∃i:Nat,t.place[i]? =some j)↔j∈t.place.toList:=by
 rw [List.mem_iff_getElem?];simp
def fK (R:uE t.place) (hd:t.dummies= #[]):t.slot j= .empty↔j∉t.place.toList:=by
 rw [<-aKt];constructor
 ·rintro e ⟨i,hi⟩;rw [aCf R hi]at e;cases e
 ·intro no;exact aIm hd λi z=>no ⟨i,z⟩
def aGi (R:uE t.place) (hj:j∉t.place.toList):uE (insertAt t.place (below t.place j) j):=by
 obtain⟨hb,h1,h2⟩:=gY R j;rw [uY,eZ];have Rl:=uY.mp R;have lo:∀x∈t.place.toList.take (below t.place j),x<j:=λx hx=>by
  obtain⟨i,hi,e⟩:=Hq hx;rw [Cd]at hi;rw [List.getElem_take]at e;have hs:i<t.place.size:=by simp at hi;omega
  have:=h1 i (by omega);rw [<-e];simpa [Eu,hs]using this
 have hi':∀x∈t.place.toList.drop (below t.place j),j<x:=λx hx=>by
  have hm:x∈t.place.toList:=Jo hx;obtain⟨i,hi,e⟩:=Hq hx;rw [Hc]at hi;rw [List.getElem_drop]at e;have hs:below t.place j+i<t.place.size:=by simp at hi;omega
  have:=h2 (below t.place j+i) (by omega) hs;have h3:j<=x:=by rw [<-e];simpa [Eu,hs]using this
  have h4:j≠x:=λz=>hj (z▸hm);omega
 rw [List.pairwise_append];refine⟨Rl.sublist (Qh _ _),List.pairwise_cons.mpr ⟨hi',Rl.sublist (List.drop_sublist _ _)⟩,λx hx y hy=>?_⟩;have:=lo x hx;rcases List.mem_cons.mp hy with e|m
 ·omega
 ·have:=hi' y m;omega
def jM (hd:t.dummies= #[]) (j:Nat):t.put j=({t with place:=insertAt t.place (below t.place j) j},below t.place j):=by
 unfold put;have h2:has t.dummies j=false:=by rw [hd];unfold has;simp
 rw [h2];rfl
def aAo {p j x:Nat}:x∈(insertAt xs p j).toList↔x=j∨x∈xs.toList:=by
 rw [eZ,Gi,Ca];constructor
 ·rintro(h|h|h)
  ·exact .inr (Jn h)
  ·exact .inl h
  ·exact .inr (Jo h)
 ·rintro(h|h)
  ·exact .inr (.inl h)
  ·rw [<-Gz p xs.toList]at h;rcases List.mem_append.mp h with h|h
   ·exact .inl h
   ·exact .inr (.inr h)
def mZ (xs:Array α) {p:Nat} (x:α) (h:p<=xs.size):(insertAt xs p x).size=xs.size+1:=by
 rw [<-As,eZ,Ag,Ah,Cd,Hc,As];omega
structure Good (t:SetTable):Prop where
 dum:t.dummies= #[]
 rise:uE t.place
 low:∀j∈t.place.toList,j<=t.mask
 room:t.place.size<=t.mask
 round:Round t.mask
def Good.put (G:Good t) (hj:t.slot j= .empty) (hl:j<=t.mask) (hr:t.place.size+1<=t.mask):Good (t.put j).1:=by
 rw [jM G.dum];have nj:=(fK G.rise G.dum).mp hj;refine⟨G.dum,aGi G.rise nj,λx hx=>?_,?_,G.round⟩
 ·rcases aAo.mp hx with e|m
  ·rw [e];exact hl
  ·exact G.low x m
 ·show(insertAt t.place (below t.place j) j).size<=t.mask;rw [mZ _ _ (gY G.rise j).1];exact hr
def Good.put_empty (G:Good t) (hj:t.slot j= .empty) (x:Nat):(t.put j).1.slot x= .empty↔t.slot x= .empty/\x≠j:=by
 have nj:=(fK G.rise G.dum).mp hj;rw [jM G.dum];rw [fK (t:={t with place:=insertAt t.place (below t.place j) j}) (aGi G.rise nj) G.dum,fK G.rise G.dum];show x∉(insertAt t.place (below t.place j) j).toList↔_;rw [aAo,not_or];exact⟨λz=>⟨z.2,z.1⟩,λz=>⟨z.2,z.1⟩⟩
def rR.put (G:Good t) {j x:Nat} (hj:t.slot j= .empty) (w:rR t h x):rR (t.put j).1 h x:=by
 obtain⟨n,e,a⟩:=w;have em:(t.put j).1.mask=t.mask:=by rw [jM G.dum]
 have es:(t.put j).1.probeStart h=t.probeStart h:=by rw [jM G.dum];rfl
 refine⟨n,by rw [em,es];exact e,λm hm z=>?_⟩;rw [em,es]at z;exact a m hm ((G.put_empty hj _).mp z).1
def rR.new (G:Good t) (hj:t.slot (advs t.mask N (t.probeStart h)).j= .empty) (a:∀m,m<N->t.slot (advs t.mask m (t.probeStart h)).j≠ .empty):rR (t.put (advs t.mask N (t.probeStart h)).j).1 h (advs t.mask N (t.probeStart h)).j:=by
 have em:(t.put (advs t.mask N (t.probeStart h)).j).1.mask=t.mask:=by rw [jM G.dum]
 have es:(t.put (advs t.mask N (t.probeStart h)).j).1.probeStart h=t.probeStart h:=by rw [jM G.dum];rfl
 refine⟨N,by rw [em,es],λm hm z=>?_⟩;rw [em,es]at z;exact a m hm ((G.put_empty hj _).mp z).1
end SetTable
section
variable {prog:Program} {w:World} {K:Type} [DecidableEq K] (knd:HeapKind prog w K)
structure jF (s:Shared) (a:Addr) (o:Obj) (es:Array (Int×Value)) (ep:Nat) (t:SetTable) (xs:List (K×Addr)):Prop where
 ho:s.heap.get? a=some o
 hex:o.ExactSet
 hd:o.data= .set es ep t
 he:es.toList=xs.map λx=>(knd.hash x.1,An x.2)
 good:t.Good
 size:t.place.size=es.size
 keys:∀x∈xs,knd.is s.heap x.1 x.2
 nd:(xs.map (·.1)).Nodup
 way:∀(i j:Nat) (x:K×Addr),t.place[i]? =some j->xs[i]? =some x->SetTable.rR t (knd.hash x.1) j
variable {knd} {A:Around} {E:Value->Shared->Prop} {s:Shared} {a b:Addr} {o:Obj} {es:Array (Int×Value)} {ep:Nat} {t:SetTable} {xs:List (K×Addr)} {k:K}
structure tW (knd:HeapKind prog w K):Prop where
 mono:∀{h h':Heap} {k:K} {c:Addr},knd.is h k c->(∀b o,o.cls= .type "tuple"->h.get? b=some o->h'.get? b=some o)->knd.is h' k c
 byValue:∀{A:Around} {E:Value->Shared->Prop} {s:Shared} {k:K} {c:Addr} {Q:Bool->Shared->Prop},knd.is s.heap k c->Q true s->wpAny (model prog w) A (hashByValue 8 (.ref c)) Q E s
 plain:∀{A:Around} {E:Value->Shared->Prop} {s:Shared} {k:K} {c:Addr} {Q:Bool->Shared->Prop},knd.is s.heap k c->Q false s->wpAny (model prog w) A (ofAClassStatement 8 (.ref c)) Q E s
def tW.keep (D:tW knd) {k:K} {c d:Addr} {o:Obj} (hx:knd.is h k c) (ho:h.get? d=some o) (hex:o.ExactSet) (sb:Cw d h h'):knd.is h' k c:=D.mono hx λb o' hc e=>by
 have ne:b≠d:=by
  rintro rfl;rw [ho]at e;cases e;rw [hex.1]at hc;exact absurd hc (by decide)
 rw [sb.2 b ne];exact e
def yE (D:tW knd) (hkey:knd.is s.heap k b) {ys:List Value} (hy:∀y∈ys,∃x c,y=An c/\knd.is s.heap x c) (h:Q false s):wpAny (model prog w) A (searchCouldBeSeen (.ref b) ys) Q E s:=by
 unfold searchCouldBeSeen;refine Aa ?_;refine Ef _ (λrest r s'=>r.1=none/\s'=s/\∀v∈rest,∃x c,v=An c/\knd.is s.heap x c) _ ?_ ?_ _ _ ⟨rfl,rfl,hy⟩
 ·rintro v rest r s' ⟨hr,rfl,hall⟩;obtain⟨x,c,rfl,hx⟩:=hall v Ae;dsimp only;have nx:∀u∈rest,∃x c,u=An c/\knd.is s'.heap x c:=λu hu=>hall u (Ad _ hu);split
  ·exact Af ⟨rfl,rfl,nx⟩
  ·refine Aa (knd.quiet hkey ?_);simp only [Br,Ao,if_false];refine Aa (knd.quiet hx ?_);simp only [Br,Ao,if_false];refine Aa (D.plain hkey ?_);simp only [Ao,if_false];refine Aa (D.plain hx ?_);simp only [Ao,if_false];exact Af ⟨rfl,rfl,nx⟩
 ·rintro⟨r1,r2⟩ s' ⟨hr,rfl,_⟩;simp only at hr;subst hr;exact Af h
def jF.fits (S:jF knd s a o es ep t xs):t.fits es.size=true:=by
 unfold Qd Qe;have h1:=S.size;have h2:=S.good.room;rw [S.good.dum];simp [h1];omega
def jF.len (S:jF knd s a o es ep t xs):es.size=xs.length:=by rw [<-As,S.he,Ab]
def jF.entry (S:jF knd s a o es ep t xs) (i:Nat):es[i]? =(xs[i]?).map λx=>(knd.hash x.1,An x.2):=by
 rw [<-Bj,S.he,Az]
def jF.even (S:jF knd s a o es ep t xs) (hm:t.mask % 2=1):t.gaveWay=false:=by
 unfold SetTable.gaveWay;rw [hm];rfl
def vG (S:jF knd s a o es ep t xs) (hm:t.mask % 2=1) (D:tW knd) (hu:knd.room A) (hkey:knd.is s.heap k b) (hN:t.slot (SetTable.advs t.mask N (t.probeStart (knd.hash k))).j= .empty) (hF:N<10*Jb t.mask)
  (first:∀m,m<N->t.slot (SetTable.advs t.mask m (t.probeStart (knd.hash k))).j≠ .empty) {Q:SetFound->Shared->Prop} (hold:(∃x∈xs,x.1=k)->Q (.there none) s) (hnew:(∀x∈xs,x.1≠k)->Q (.free (SetTable.advs t.mask N (t.probeStart (knd.hash k))).j false) s):
  ∀(fuel n:Nat) (stand:Option SetTable.Probe),stand.getD (t.probeStart (knd.hash k))=SetTable.advs t.mask n (t.probeStart (knd.hash k))->n<=N->N-n<fuel->(∀m,m<n->∃(i:Nat) (x:K×Addr),t.slot (SetTable.advs t.mask m (t.probeStart (knd.hash k))).j= .live i/\xs[i]? =some x/\x.1≠k)->
   wpAny (model prog w) A (setSearchFrom a (.ref b) (knd.hash k) true fuel stand) Q E s:=by
 intro fuel;induction fuel with
 |zero=>intro n stand _ _ h3;omega
 |succ fuel ih=>
  intro n stand h1 h2 h3 past;have dumA:∀m p,(SetTable.advs t.mask m p).dummy=p.dummy:=by
   intro m;induction m with
   |zero=>intro p;rfl
   |succ m ih=>intro p;rw [SetTable.advs,ih,SetTable.aCo]
  unfold setSearchFrom;refine Aa (Dz S.ho S.hd S.fits ?_);dsimp only;rw [S.even hm];simp only [Ao,if_false];rw [h1];have comp:∀m,SetTable.advs t.mask m (SetTable.advs t.mask n (t.probeStart (knd.hash k)))=SetTable.advs t.mask (n+m) (t.probeStart (knd.hash k)):=λm=>(SetTable.rF t.mask n m _).symm;have ent:∀i:Nat,(es[i]?.map (·.1)).getD 0=((xs[i]?).map λx=>knd.hash x.1).getD 0:=λi=>by
   rw [S.entry i,Option.map_map];rfl
  have inx:∀(i j:Nat),t.slot j= .live i->∃x,xs[i]? =some x/\t.place[i]? =some j:=λi j hs=>by
   rcases SetTable.uF S.good.dum j with z|⟨i',z1,z2⟩
   ·rw [hs]at z;cases z
   ·rw [hs]at z1;cases z1;have hi:i<t.place.size:=(Array.getElem?_eq_some_iff.mp z2).1;rw [S.size,S.len]at hi;exact⟨xs[i],Ak hi,z2⟩
  obtain⟨n',a1,a2,a3⟩:=SetTable.aRe (t:=t) (hashAt:=λi:Nat=>(es[i]?.map (·.1)).getD 0) (h:=knd.hash k) (SetTable.pM S.good.dum) (10*Jb t.mask) (SetTable.advs t.mask n (t.probeStart (knd.hash k))) (N-n) (by rw [comp,show n+(N-n)=N by omega];exact hN) (by omega) (by rw [dumA];rfl);rw [comp]at a3;rcases a3 with ⟨b1,b2⟩|⟨i,b1,b2,b3⟩
  ·have eN:n+n'=N:=by
    rcases Ge (n+n') N with z|z
    ·exact absurd b1 (first _ z)
    ·omega
   have e:t.probe (λi:Nat=>(es[i]?.map (·.1)).getD 0) (knd.hash k) (SetTable.advs t.mask n (t.probeStart (knd.hash k)))=some (.empty (SetTable.advs t.mask (n+n') (t.probeStart (knd.hash k))).j none):=b2
   erw [e]
   dsimp only;rw [eN];refine Af (hnew λx hx ek=>?_);obtain⟨i,hi⟩:=List.mem_iff_getElem?.mp hx;have his:i<t.place.size:=by rw [S.size,S.len];exact(List.getElem?_eq_some_iff.mp hi).1
   have hpl:t.place[i]? =some t.place[i]:=Bc his;have hsl:=SetTable.aCf S.good.rise hpl;have wy:=S.way i _ x hpl hi;rw [ek]at wy;obtain⟨m,hm1,hm2⟩:=wy.ahead (by rw [hsl];intro z;cases z) hN;rcases Ge m n with z|z
   ·obtain⟨i',x',c1,c2,c3⟩:=past m z;rw [hm2,hsl]at c1;cases c1;rw [hi]at c2;cases c2;exact c3 ek
   ·obtain⟨i',c1,c2⟩:=a2 (m-n) (by omega);rw [comp,show n+(m-n)=m by omega,hm2,hsl]at c1;cases c1;rw [ent,hi]at c2;exact c2 (by rw [<-ek];rfl)
  ·obtain⟨x,hx,hpl⟩:=inx i _ b1;have hxm:=Bn hx;have e:t.probe (λi:Nat=>(es[i]?.map (·.1)).getD 0) (knd.hash k) (SetTable.advs t.mask n (t.probeStart (knd.hash k)))=some (.candidate (SetTable.advs t.mask (n+n') (t.probeStart (knd.hash k))).j i (SetTable.advs t.mask (n'+1) (SetTable.advs t.mask n (t.probeStart (knd.hash k))))):=b3
   erw [e]
   dsimp only;cases hl:t.led
   focus
    simp only [Gw,if_true];refine Aa (yE D hkey (λy hy=>?_) ?_);obtain⟨e,he,rfl⟩:=List.mem_map.mp hy;have he2:=(Array.mem_filter.mp (Array.mem_toList_iff.mp he)).1;rw [<-Array.mem_toList_iff,S.he]at he2;obtain⟨x',hx',rfl⟩:=List.mem_map.mp he2;exact⟨_,_,rfl,S.keys x' hx'⟩;simp only [Ao,if_false]
   rotate_left
   focus
    simp only [Br,Ao,if_false]
   all_goals
    rw [S.entry i,hx];dsimp only [Qg];refine Aa (By (knd.eqBool hu (S.keys x hxm) hkey ?_));refine Aa (Dz S.ho S.hd S.fits ?_);by_cases ek:x.1=k
    ·rw [decide_eq_true ek];simp only [Sn,if_true];exact Af (hold ⟨x,hxm,ek⟩)
    ·rw [decide_eq_false ek];simp only [Gx,Ao,if_false];have sm:t.sameMemory t.moves t.mask=some true:=by unfold SetTable.sameMemory;simp
     rw [sm];simp only [if_true];rw [b1];dsimp only;rw [S.entry i,hx];dsimp only [Qg];refine Aa (wpAny_isSame_ref_self ?_);simp only [if_true];refine Aa (Af ?_);dsimp only;have lt:n+n'<N:=by
      rcases Ge (n+n') N with z|z
      ·exact z
      ·have z2:n+n'=N:=by omega
       rw [z2,hN]at b1;cases b1
     refine ih (n+(n'+1)) _ (by show SetTable.advs t.mask (n'+1) _=_;rw [comp]) (by omega) (by omega) λm hm'=>?_;rcases Ge m n with z|z
     ·exact past m z
     ·by_cases z2:m=n+n'
      ·subst z2;exact⟨i,x,b1,hx,ek⟩
      ·obtain⟨i',c1,c2⟩:=a2 (m-n) (by omega);rw [comp,show n+(m-n)=m by omega]at c1;obtain⟨x',hx',_⟩:=inx i' _ c1;refine⟨i',x',c1,hx',λek'=>c2 ?_⟩;rw [ent,hx', <-ek'];rfl
def vY {o:Obj} (es':Array (Int×Value)) (t':SetTable) (hd:o.data= .set es ep t) (h:o.ExactSet):(Gu es' t' o).ExactSet:=by
 rw [Jy es' t' hd];exact h
def get_ins {l:List α} {p i:Nat} {y x:α} (hp:p<=l.length) (h:(l.take p++x::l.drop p)[i]? =some y):(i<p/\l[i]? =some y)∨(i=p/\y=x)∨(p<i/\l[i-1]? =some y):=by
 have hlen:(l.take p).length=p:=by rw [Cd];omega
 rcases Ij i p with z|z|z
 ·rw [Dv (by omega),Nb z]at h;exact .inl ⟨z,h⟩
 ·subst z;rw [Cu (by omega),hlen,Oy]at h;exact .inr (.inl ⟨rfl,(Bl h).symm⟩)
 ·rw [Cu (by omega),hlen]at h;obtain⟨d,rfl⟩:∃d,i=p+(d+1):=⟨i-p-1,by omega⟩;rw [show p+(d+1)-p=d+1 by omega,Im,Px]at h;exact .inr (.inr ⟨by omega,by rw [show p+(d+1)-1=p+d by omega];exact h⟩)
def jF.add (S:jF knd s a o es ep t xs) (hkey:knd.is s.heap k b) (hn:∀x∈xs,x.1≠k) (hkeep:∀h',Cw a s.heap h'->∀x c,knd.is s.heap x c->knd.is h' x c) (hN:t.slot (SetTable.advs t.mask N (t.probeStart (knd.hash k))).j= .empty)
  (first:∀m,m<N->t.slot (SetTable.advs t.mask m (t.probeStart (knd.hash k))).j≠ .empty) (hl:(SetTable.advs t.mask N (t.probeStart (knd.hash k))).j<=t.mask) (hroom:t.place.size+1<=t.mask) {j p:Nat} (ej:j=(SetTable.advs t.mask N (t.probeStart (knd.hash k))).j) (epp:p=Cb t.place j):
  jF knd {s with heap:=s.heap.update a (Gu (Gg es p (knd.hash k,.ref b)) (t.put j).1)} a (Gu (Gg es p (knd.hash k,.ref b)) (t.put j).1 o) (Gg es p (knd.hash k,.ref b)) (ep+1) (t.put j).1 (xs.take p++(k,b)::xs.drop p):=by
 subst ej epp;have hb:=(SetTable.gY S.good.rise (SetTable.advs t.mask N (t.probeStart (knd.hash k))).j).1;have hbx:Cb t.place (SetTable.advs t.mask N (t.probeStart (knd.hash k))).j<=xs.length:=by rw [<-S.len, <-S.size];exact hb
 have hnf:(Gu (Gg es (Cb t.place (SetTable.advs t.mask N (t.probeStart (knd.hash k))).j) (knd.hash k,.ref b)) (t.put (SetTable.advs t.mask N (t.probeStart (knd.hash k))).j).1 o).isFreed=false:=by
  rw [Jy _ _ S.hd];rfl
 refine⟨Cc _ S.ho hnf,vY _ _ S.hd S.hex,by rw [Jy _ _ S.hd],?_,S.good.put hN hl hroom,?_,λx hx=>?_,?_,λi j x h1 h2=>?_⟩
 ·rw [SetTable.eZ,S.he, <-List.map_take, <-List.map_drop,Ay,Aw]
 ·rw [SetTable.jM S.good.dum];show(Gg t.place _ _).size=_;rw [SetTable.mZ _ _ hb,SetTable.mZ _ _ (by rw [<-S.size];exact hb),S.size]
 ·rcases List.mem_append.mp hx with m|m
  ·exact hkeep _ (Bw ..) _ _ (S.keys x (Jn m))
  ·rcases List.mem_cons.mp m with e|m
   ·rw [e];exact hkeep _ (Bw ..) _ _ hkey
   ·exact hkeep _ (Bw ..) _ _ (S.keys x (Jo m))
 ·have pm:((xs.take (Cb t.place (SetTable.advs t.mask N (t.probeStart (knd.hash k))).j)++(k,b)::xs.drop (Cb t.place (SetTable.advs t.mask N (t.probeStart (knd.hash k))).j)).map (·.1)).Perm (k::xs.map (·.1)):=by
   have:=(Qs (a:=(k,b)) (l₁:=xs.take (Cb t.place (SetTable.advs t.mask N (t.probeStart (knd.hash k))).j)) (l₂:=xs.drop (Cb t.place (SetTable.advs t.mask N (t.probeStart (knd.hash k))).j))).map (·.1);rw [Gz]at this;exact this
  rw [pm.nodup_iff,Lq];refine⟨λm=>?_,S.nd⟩;obtain⟨x,hx,e⟩:=List.mem_map.mp m;exact hn x hx e
 ·rw [SetTable.jM S.good.dum]at h1;have h1':(t.place.toList.take (Cb t.place (SetTable.advs t.mask N (t.probeStart (knd.hash k))).j)++(SetTable.advs t.mask N (t.probeStart (knd.hash k))).j::t.place.toList.drop (Cb t.place (SetTable.advs t.mask N (t.probeStart (knd.hash k))).j))[i]? =some j:=by
   rw [<-SetTable.eZ,Bj];exact h1
  have gp:=get_ins (by rw [As];exact hb) h1';have gx:=get_ins hbx h2;rcases gp with ⟨z1,z2⟩|⟨z1,z2⟩|⟨z1,z2⟩
  ·rcases gx with ⟨y1,y2⟩|⟨y1,y2⟩|⟨y1,y2⟩
   ·exact(S.way i j x (by rw [<-Bj];exact z2) y2).put S.good hN
   ·omega
   ·omega
  ·rcases gx with ⟨y1,y2⟩|⟨y1,y2⟩|⟨y1,y2⟩
   ·omega
   ·rw [z2,y2];exact SetTable.rR.new S.good hN first
   ·omega
  ·rcases gx with ⟨y1,y2⟩|⟨y1,y2⟩|⟨y1,y2⟩
   ·omega
   ·omega
   ·exact(S.way (i-1) j x (by rw [<-Bj];exact z2) y2).put S.good hN
end
namespace SetTable
def stP (M:Nat) (i perturb:Nat):Probe:={j:=i,more:=runEnd M i-i,i,perturb,dummy:=none}
def st (M:Nat) (h:Int):Probe:=stP M (bits h % (M+1)) (bits h)
def yI (M i perturb:Nat):∀k,k<=runEnd M i-i->(advs M k (stP M i perturb))={stP M i perturb with j:=i+k,more:=runEnd M i-i-k}:=by
 have gen:∀(k:Nat) (p:Probe),k<=p.more->advs M k p={p with j:=p.j+k,more:=p.more-k}:=by
  intro k;induction k with
  |zero=>intro p _;rfl
  |succ k ih=>
   intro p hk;rw [advs];have e:adv M p={p with j:=p.j+1,more:=p.more-1}:=by unfold adv;rw [if_pos (by omega)]
   rw [e,ih _ (by show k<=p.more-1;omega)];have e1:p.j+1+k=p.j+(k+1):=by omega
   have e2:p.more-1-k=p.more-(k+1):=by omega
   show({p with j:=p.j+1+k,more:=p.more-1-k}:Probe)=_;rw [e1,e2]
 intro k hk;exact gen k _ hk
def aFc (M i perturb:Nat):advs M (runEnd M i-i+1) (stP M i perturb)=stP M (leap M i perturb).1 (leap M i perturb).2:=by
 rw [rF,yI M i perturb _ (Am _),Oy,advs,advs];unfold adv;rw [if_neg (by show¬(0>0);omega)];rfl
def aMl (hsz:owner.size=M+1):∀(fuel i perturb:Nat) (j:Nat),El M owner fuel i perturb=some j->
  owner[j]? =some none/\∃n,(advs M n (stP M i perturb)).j=j/\∀m,m<n->owner[(advs M m (stP M i perturb)).j]? ≠some none:=by
 intro fuel;induction fuel with
 |zero=>intro i perturb j e;cases e
 |succ fuel ih=>
  intro i perturb j e;have key:El M owner (fuel+1) i perturb=match (Bq (runEnd M i+1-i)).find? λk=>(owner.getD (i+k) (some 0)).isNone with|some k=>some (i+k)|none=>El M owner fuel (leap M i perturb).1 (leap M i perturb).2:=rfl
  rw [key]at e;have none_of:∀x,(owner.getD x (some 0)).isNone=true↔owner[x]? =some none:=λx=>by
   by_cases hx:x<owner.size
   ·simp [Eu,hx]
   ·simp [Eu,hx]
  have hre:runEnd M i+1-i=runEnd M i-i+1:=by unfold runEnd;split<;>omega
  cases hf:(Bq (runEnd M i+1-i)).find? λk=>(owner.getD (i+k) (some 0)).isNone with
  |some k=>
   rw [hf]at e;cases e;have h1:=List.find?_some hf;have h2:=List.mem_range.mp (Mq hf);refine⟨(none_of _).mp h1,k,by rw [yI M i perturb k (by omega)],λm hm=>?_⟩;rw [yI M i perturb m (by omega)];intro z;have z':owner[i+m]? =some none:=z;rw [List.find?_eq_some_iff_append]at hf;obtain⟨_,as,bs,e1,e2⟩:=hf;have hk:as.length=k:=by
    have h3:(Bq (runEnd M i+1-i))[as.length]? =some k:=by rw [e1];simp
    rw [Jv (by have:=congrArg Cg e1;simp at this;omega)]at h3;exact Bl h3
   have h4:m∈as:=by
    have h5:(Bq (runEnd M i+1-i))[m]? =some m:=Jv (by omega);rw [e1,Dv (by omega)]at h5;exact Bn h5
   have:=e2 m h4;rw [(none_of _).mpr z']at this;exact absurd this (by decide)
  |none=>
   rw [hf]at e;obtain⟨b1,n,b2,b3⟩:=ih _ _ _ e;refine⟨b1,runEnd M i-i+1+n,by rw [rF,aFc];exact b2,λm hm=>?_⟩;rcases Ge m (runEnd M i-i+1)with z|z
   ·rw [yI M i perturb m (by omega)];intro y;have y':owner[i+m]? =some none:=y;have:=List.find?_eq_none.mp hf m (List.mem_range.mpr (by omega));exact this ((none_of _).mpr y')
   ·obtain⟨d,rfl⟩:∃d,m=runEnd M i-i+1+d:=⟨m-(runEnd M i-i+1),by omega⟩;rw [rF,aFc];exact b3 d (by omega)
def aKk (he:owner[e]? =some none):∀(fuel i perturb L:Nat),(gO M L (i,perturb)).1=e->L<fuel->∃j,El M owner fuel i perturb=some j:=by
 intro fuel;induction fuel with
 |zero=>intro i perturb L _ h;omega
 |succ fuel ih=>
  intro i perturb L h1 h2;have key:El M owner (fuel+1) i perturb=match (Bq (runEnd M i+1-i)).find? λk=>(owner.getD (i+k) (some 0)).isNone with|some k=>some (i+k)|none=>El M owner fuel (leap M i perturb).1 (leap M i perturb).2:=rfl
  rw [key];cases hf:(Bq (runEnd M i+1-i)).find? λk=>(owner.getD (i+k) (some 0)).isNone with
  |some k=>exact⟨_,rfl⟩
  |none=>
   cases L with
   |zero=>
    have h1':i=e:=h1;subst h1';have hr:0<runEnd M i+1-i:=by unfold runEnd;split<;>omega
    have:=List.find?_eq_none.mp hf 0 (List.mem_range.mpr hr);have hs:i<owner.size:=(Array.getElem?_eq_some_iff.mp he).1;have h3:owner[i]=none:=(Array.getElem?_eq_some_iff.mp he).2;exact absurd (by simp [Eu,hs,h3]) this
   |succ L=>exact ih _ _ L h1 (by omega)
structure Lay (M:Nat) (hs:List Int) (owner:Array (Option Nat)):Prop where
 size:owner.size=M+1
 has:∀i,i<hs.length->∃j:Nat,owner[j]? =some (some i)
 low:∀(j i:Nat),owner[j]? =some (some i)->i<hs.length
 uniq:∀(j j' i:Nat),owner[j]? =some (some i)->owner[j']? =some (some i)->j=j'
 way:∀(j i:Nat) (h:Int),owner[j]? =some (some i)->hs[i]? =some h->∃n,(advs M n (st M h)).j=j/\∀m,m<n->owner[(advs M m (st M h)).j]? ≠some none
def Lay.start (M:Nat):Lay M [] (Qy (M+1) none):=by
 have no:∀(j i:Nat),(Qy (M+1) (none:Option Nat))[j]? ≠some (some i):=λj i e=>by
  rw [Array.getElem?_replicate]at e;split at e<;>cases e
 exact⟨by simp,λi h=>absurd h (Dl i),λj i e=>absurd e (no j i),λj j' i e=>absurd e (no j i),λj i h e=>absurd e (no j i)⟩
def Lay.empty (L:Lay M hs owner) (hl:hs.length<=M):∃e,e<=M/\owner[e]? =some none:=by
 refine Hm λno=>?_;have all:∀j,j<=M->∃i,owner[j]? =some (some i):=λj hj=>by
  have hs:j<owner.size:=by rw [L.size];omega
  cases g:owner[j]with
  |none=>exact absurd ⟨j,hj,by rw [Bc hs,g]⟩ no
  |some i=>exact⟨i,by rw [Bc hs,g]⟩
 have f:∀j,∃i,j<=M->owner[j]? =some (some i):=λj=>by
  by_cases hj:j<=M
  ·obtain⟨i,hi⟩:=all j hj;exact⟨i,λ_=>hi⟩
  ·exact⟨0,λz=>absurd z hj⟩
 obtain⟨F,hF⟩:=Classical.axiomOfChoice f;have nd:((Bq (M+1)).map F).Nodup:=by
  rw [Kn,Dt];refine(Fy (n:=M+1)).imp_of_mem λ{a b} ha hb hab z=>hab ?_;have h1:=hF a (by have:=List.mem_range.mp ha;omega);have h2:=hF b (by have:=List.mem_range.mp hb;omega);rw [z]at h1;exact L.uniq a b _ h1 h2
 have sub:(Bq (M+1)).map F ⊆ Bq hs.length:=λx hx=>by
  obtain⟨j,hj,rfl⟩:=List.mem_map.mp hx;exact List.mem_range.mpr (L.low j _ (hF j (by have:=List.mem_range.mp hj;omega)))
 have:=nd.length_le_of_subset sub;rw [Ab,Df,Df]at this;omega
def Lay.step (R:Round M) (L:Lay M hs owner) (hl:hs.length<=M) (h:Int):∃j,El M owner (turns M) (bits h % (M+1)) (bits h)=some j/\Lay M (hs++[h]) (owner.setIfInBounds j (some hs.length)):=by
 obtain⟨e,he,e1⟩:=L.empty hl;have hb:bits h<2 ^ 64:=by
  unfold bits;have h1:=Gm h (show((2:Int) ^ 64)≠0 by decide);have h2:=Ff h (show(0:Int)<2 ^ 64 by decide);omega
 obtain⟨Lp,_,l2,l3⟩:=aAd R he (bits h % (M+1)) (bits h) hb;obtain⟨j,hj⟩:=aKk e1 (turns M) _ _ Lp l3 (by unfold turns;omega);obtain⟨w1,n,w2,w3⟩:=aMl L.size _ _ _ _ hj;have hjs:j<owner.size:=(Array.getElem?_eq_some_iff.mp w1).1;have at_:∀x,(owner.setIfInBounds j (some hs.length))[x]? =if x=j then some (some hs.length)else owner[x]? :=λx=>by
  rw [Array.getElem?_setIfInBounds];by_cases z:j=x
  ·subst z;simp [hjs]
  ·rw [if_neg z,if_neg (λy=>z y.symm)]
 have occ:∀x,owner[x]? ≠some none->(owner.setIfInBounds j (some hs.length))[x]? ≠some none:=λx z=>by
  rw [at_];split
  ·intro y;cases y
  ·exact z
 refine⟨j,hj,⟨by simp [L.size],λi hi=>?_,λx i g=>?_,λx y i g1 g2=>?_,λx i h' g g'=>?_⟩⟩
 ·rw [Ag,De]at hi;by_cases z:i<hs.length
  ·obtain⟨x,hx⟩:=L.has i z;refine⟨x,?_⟩;rw [at_,if_neg (λy=>by subst y;rw [w1]at hx;cases hx)];exact hx
  ·exact⟨j,by rw [at_,if_pos rfl,show i=hs.length by omega]⟩
 ·rw [at_]at g;rw [Ag,De];split at g
  ·cases g;omega
  ·have:=L.low x i g;omega
 ·rw [at_]at g1;rw [at_]at g2;split at g1
  ·split at g2
   ·omega
   ·cases g1;exact absurd (L.low y _ g2) (Eg _)
  ·split at g2
   ·cases g2;exact absurd (L.low x _ g1) (Eg _)
   ·exact L.uniq x y i g1 g2
 ·rw [at_]at g;split at g
  ·cases g;rw [Cu (Am _),Oy]at g';cases g';subst x;exact⟨n,w2,λm hm=>occ _ (w3 m hm)⟩
  ·have:=L.low x i g;rw [Dv this]at g';obtain⟨n',a1,a2⟩:=L.way x i h' g g';exact⟨n',a1,λm hm=>occ _ (a2 m hm)⟩
theorem aJm {M:Nat} (R:Round M):∀(l hs:List Int) (owner:Array (Option Nat)),Lay M hs owner->hs.length+l.length<=M+1->∃owner',(l.foldl (init:=some (owner,hs.length)) λacc h=>do
   let(owner,k)<-acc
   let j<-El M owner (turns M) (bits h % (M+1)) (bits h)
   pure (owner.setIfInBounds j (some k),k+1))=some (owner',(hs++l).length)/\Lay M (hs++l) owner'
 | [],hs,owner,L,_=>⟨owner,by simp,by simpa using L⟩
 |h::l,hs,owner,L,hl=>by
  rw [Ah]at hl
  obtain⟨j,hj,L'⟩:=L.step R (by omega) h
  obtain⟨o',e1,e2⟩:=aJm R l (hs++[h]) _ L' (by rw [Ag,De];omega)
  refine⟨o',?_,by simpa using e2⟩
  rw [Fm]
  have:(do
   let(owner,k)<-some (owner,hs.length)
   let j<-El M owner (turns M) (bits h % (M+1)) (bits h)
   pure (owner.setIfInBounds j (some k),k+1):Option (Array (Option Nat)×Nat))=some (owner.setIfInBounds j (some hs.length),hs.length+1):=by
   show(El M owner (turns M) (bits h % (M+1)) (bits h)).bind _=_
   rw [hj]
   rfl
  rw [this]
  rw [Ag,De]at e1
  rw [e1]
  simp
def aBg (R:Round M) (hashes:Array Int) (hl:hashes.size<=M+1):∃owner,layClean M hashes=some owner/\Lay M hashes.toList owner:=by
 obtain⟨o',e1,e2⟩:=aJm R hashes.toList [] _ (Lay.start M) (by simpa using hl);refine⟨o',?_,by simpa using e2⟩;unfold layClean;rw [<-Array.foldl_toList];have e1':=e1;rw [Be]at e1';rw [e1'];rfl
def gZ (M:Nat) (owner:Array (Option Nat)):List (Nat×Nat):=(Bq (M+1)).filterMap λj=>(owner.getD j none).map (j,·)
def mJ (hsz:owner.size=M+1) {j i:Nat}:(j,i)∈gZ M owner↔owner[j]? =some (some i):=by
 unfold gZ;rw [List.mem_filterMap];constructor
 ·rintro⟨x,hx,e⟩;obtain⟨y,hy,e2⟩:=Option.map_eq_some_iff.mp e;cases e2;have hs:j<owner.size:=by rw [hsz];exact List.mem_range.mp hx
  have hy':owner[j]=some i:=by simpa [Eu,hs]using hy
  rw [Bc hs,hy']
 ·intro e;obtain⟨hs,e2⟩:=Array.getElem?_eq_some_iff.mp e;refine⟨j,List.mem_range.mpr (by omega),?_⟩;have:owner.getD j none=some i:=by simp [Eu,hs,e2]
  rw [this];rfl
def wO (M:Nat) (owner:Array (Option Nat)):((gZ M owner).map (·.1)).Pairwise (·<·):=by
 unfold gZ;rw [Dt,List.pairwise_filterMap];refine(List.pairwise_lt_range (n:=M+1)).imp λ{a b} hab x hx y hy=>?_;obtain⟨_,_,rfl⟩:=Option.map_eq_some_iff.mp hx;obtain⟨_,_,rfl⟩:=Option.map_eq_some_iff.mp hy;exact hab
def aG5 (L:Lay M hs owner):((gZ M owner).map (·.2)).Perm (Bq hs.length):=by
 have nd:((gZ M owner).map (·.2)).Nodup:=by
  rw [Kn,Dt];have h1:=wO M owner;rw [Dt]at h1;refine h1.imp_of_mem λ{a b} ha hb hab z=>?_;have g1:=(mJ L.size).mp (show(a.1,a.2)∈_ from ha);have g2:=(mJ L.size).mp (show(b.1,b.2)∈_ from hb);rw [z]at g1;have:=L.uniq _ _ _ g1 g2;omega
 refine(List.perm_ext_iff_of_nodup nd Fy).mpr λi=>?_;rw [List.mem_range,Ts];constructor
 ·rintro⟨⟨j,i'⟩,hm,rfl⟩;exact L.low j _ ((mJ L.size).mp hm)
 ·intro hi;obtain⟨j,hj⟩:=L.has i hi;exact⟨(j,i),(mJ L.size).mpr hj,rfl⟩
def aRh (M:Nat) {p:Probe} (h:p.j+p.more<=M):(adv M p).j+(adv M p).more<=M:=by
 unfold adv;split
 ·show p.j+1+(p.more-1)<=M;omega
 ·show(leap M p.i p.perturb).1+(runEnd M (leap M p.i p.perturb).1-(leap M p.i p.perturb).1)<=M;have:(leap M p.i p.perturb).1<=M:=by
   show(p.i*5+1+p.perturb / 32) % (M+1)<=M;have:=Ku (p.i*5+1+p.perturb / 32) (show 0<M+1 by omega);omega
  unfold runEnd;split<;>omega
theorem aAr (M:Nat):∀(n:Nat) {p:Probe},p.j+p.more<=M->(advs M n p).j<=M
 |0,_,h=>by rw [advs];omega
 |n+1,_,h=>by rw [advs];exact aAr M n (aRh M h)
def aN8 (M:Nat) (h:Int):(st M h).j+(st M h).more<=M:=by
 show bits h % (M+1)+(runEnd M (bits h % (M+1))-bits h % (M+1))<=M;have:=Ku (bits h) (show 0<M+1 by omega);unfold runEnd;split<;>omega
def aJ8 (R:Round M) (finger moves:Nat) (led plain:Bool) (hashes:Array Int) (hl:hashes.size<=M):
  ∃t order,laid M finger moves led plain hashes=some (t,order)/\t.mask=M/\t.led=led/\t.plain=plain/\t.moves=moves/\t.Good/\t.place.size=hashes.size/\order.toList.Perm (Bq hashes.size)/\
   ∀(r j i:Nat) (h:Int),t.place[r]? =some j->order[r]? =some i->hashes[i]? =some h->rR t h j:=by
 obtain⟨owner,e1,L⟩:=aBg R hashes (by omega);have Pm:=aG5 L;have Ps:(gZ M owner).length=hashes.size:=by
  have:=Pm.length_eq;rw [Ab,Df,As]at this;exact this
 refine⟨{mask:=M,place:=((gZ M owner).map (·.1)).toArray,dummies:= #[],finger,led,moves,plain},((gZ M owner).map (·.2)).toArray,?_,rfl,rfl,rfl,rfl,?_,?_,?_,?_⟩
 ·unfold laid;rw [e1];rfl
 ·refine⟨rfl,uY.mpr (wO M owner),λj hj=>?_,?_,R⟩
  ·obtain⟨⟨j',i⟩,hm,rfl⟩:=List.mem_map.mp hj;have:=(Array.getElem?_eq_some_iff.mp ((mJ L.size).mp hm)).1;show j'<=M;rw [L.size]at this;omega
  ·show((gZ M owner).map (·.1)).toArray.size<=M;rw [Al,Ab,Ps];exact hl
 ·show((gZ M owner).map (·.1)).toArray.size=_;rw [Al,Ab,Ps]
 ·show((gZ M owner).map (·.2)).Perm _;rw [As]at Pm;exact Pm
 ·intro r j i h h1 h2 h3;have g1:((gZ M owner).map (·.1))[r]? =some j:=by simpa using h1
  have g2:((gZ M owner).map (·.2))[r]? =some i:=by simpa using h2
  rw [Az]at g1 g2;obtain⟨x,hx,rfl⟩:=Option.map_eq_some_iff.mp g1;rw [hx]at g2;cases g2;have hm:=(mJ L.size).mp (show(x.1,x.2)∈_ from Bn hx);obtain⟨n,w1,w2⟩:=L.way x.1 x.2 h hm (by rw [Bj];exact h3);refine⟨n,w1,λm hm' z=>w2 m hm' ?_⟩;have z1:=(fK (t:={mask:=M,place:=((gZ M owner).map (·.1)).toArray,dummies:= #[],finger,led,moves,plain}) (uY.mpr (wO M owner)) rfl).mp z;have low:(advs M m (st M h)).j<=M:=aAr M m (aN8 M h);have hs:(advs M m (st M h)).j<owner.size:=by rw [L.size];omega
  cases g:owner[(advs M m (st M h)).j]with
  |none=>rw [Bc hs,g]
  |some i'=>
   have g':owner[(advs M m (st M h)).j]? =some (some i'):=by rw [Bc hs,g]
   exact absurd (List.mem_map.mpr ⟨((advs M m (st M h)).j,i'),(mJ L.size).mpr g',rfl⟩) z1
end SetTable
theorem filterMap_get {α β:Type} {f:α->Option β}:∀{l:List α},(∀i∈l,∃y,f i=some y)->∀r:Nat,(l.filterMap f)[r]? =l[r]?.bind f
 | [],_,r=>by simp
 |a::l,h,r=>by
  obtain⟨y,hy⟩:=h a (Ae ..);rw [Nd hy];cases r with
  |zero=>simp [hy]
  |succ r=>
   rw [Im,Im];exact filterMap_get (λi hi=>h i (Ad _ hi)) r
def qL (l:List α):(Bq l.length).filterMap (λi:Nat=>l[i]?)=l:=by
 apply Km;intro r;rw [filterMap_get (λi hi=>⟨l[i]'(List.mem_range.mp hi),Ak (List.mem_range.mp hi)⟩)];by_cases h:r<l.length
 ·rw [Jv h];rfl
 ·rw [Co (by rw [Df];omega),Co (by omega)];rfl
section
variable {prog:Program} {w:World} {K:Type} [DecidableEq K] {knd:HeapKind prog w K} {A:Around} {E:Value->Shared->Prop} {s:Shared} {a b:Addr} {o:Obj} {es:Array (Int×Value)} {ep:Nat} {t:SetTable} {xs:List (K×Addr)} {k:K}
def jF.relaid (S:jF knd s a o es ep t xs) (hkeep:∀h',Cw a s.heap h'->∀x c,knd.is s.heap x c->knd.is h' x c) {wanted:Nat} (R:SetTable.Round (Dh wanted-1)) (hl:es.size<=Dh wanted-1):
  ∃t' order,t.relaid (es.map (·.1)) wanted=some (t',order)/\(order.filterMap (es[·]?)).size=es.size/\t'.mask=Dh wanted-1/\t'.led=t.led/\t'.plain=t.plain/\∃xs':List (K×Addr),xs'.Perm xs/\
   jF knd {s with heap:=s.heap.update a (Gu (order.filterMap (es[·]?)) t')} a (Gu (order.filterMap (es[·]?)) t' o) (order.filterMap (es[·]?)) (ep+1) t' xs':=by
 obtain⟨t',order,e1,e2,e3,e4,e5,G,sz,pm,wy⟩:=SetTable.aJ8 R t.finger (t.movedTo (Dh wanted-1)) t.led t.plain (es.map (·.1)) (by rw [Re];exact hl);rw [Re]at sz pm;have hin:∀i∈order.toList,∃y,xs[i]? =some y:=λi hi=>by
  have:=List.mem_range.mp (pm.mem_iff.mp hi);rw [S.len]at this;exact⟨xs[i],Ak this⟩
 have el:(order.filterMap (es[·]?)).toList=(order.toList.filterMap λi:Nat=>xs[i]?).map λx=>(knd.hash x.1,An x.2):=by
  rw [Array.toList_filterMap,Pw];congr 1;funext i;exact S.entry i
 have px:(order.toList.filterMap λi:Nat=>xs[i]?).Perm xs:=by
  have:=pm.filterMap λi:Nat=>xs[i]?;rw [S.len,qL]at this;exact this
 have esz:(order.filterMap (es[·]?)).size=es.size:=by rw [<-As,el,Ab,px.length_eq,S.len]
 have hnf:(Gu (order.filterMap (es[·]?)) t' o).isFreed=false:=by
  rw [Jy _ _ S.hd];rfl
 refine⟨t',order,e1,esz,e2,e3,e4,_,px,⟨Cc _ S.ho hnf,vY _ _ S.hd S.hex,by rw [Jy _ _ S.hd],el,G,by rw [sz,esz],λx hx=>hkeep _ (Bw ..) _ _ (S.keys x (px.mem_iff.mp hx)),?_,λr j x h1 h2=>?_⟩⟩
 ·rw [(px.map (·.1)).nodup_iff];exact S.nd
 ·rw [filterMap_get hin]at h2;obtain⟨i,hi,hx⟩:=Option.bind_eq_some_iff.mp h2;refine wy r j i _ h1 (by rw [<-Bj];exact hi) ?_;rw [Array.getElem?_map,S.entry i,hx];rfl
def wY (S:jF knd s a o es ep t xs) (hkeep:∀h',Cw a s.heap h'->∀x c,knd.is s.heap x c->knd.is h' x c) {wanted:Nat} (R:SetTable.Round (Dh wanted-1)) (hl:es.size<=Dh wanted-1) (hsz:Dh wanted<=sizeLine) {Q:Unit->Shared->Prop}
  (h:∀(h':Heap) (o':Obj) (es':Array (Int×Value)) (t':SetTable) (xs':List (K×Addr)),Cw a s.heap h'->xs'.Perm xs->t'.mask=Dh wanted-1->t'.led=t.led->t'.plain=t.plain->jF knd {s with heap:=h'} a o' es' (ep+1) t' xs'->Q () {s with heap:=h'}):
  wpAny (model prog w) A (setRelay a wanted) Q E s:=by
 obtain⟨t',order,e1,e2,e3,e4,e5,xs',px,S'⟩:=S.relaid hkeep R hl;unfold setRelay;refine Aa (Dz S.ho S.hd S.fits ?_);dsimp only;rw [if_neg (by omega)];refine Aa ?_;rw [e1];show wpAny _ _ (if(order.filterMap (es[·]?)).size != es.size then _ else pure (order.filterMap (es[·]?),t')) _ _ _;rw [if_neg (by rw [e2];simp)];refine Af ?_;refine Lx S.ho S.hd (h _ _ _ _ xs' (Bw ..) px e3 e4 e5 S') ?_;rw [e2];omega
end
namespace SetTable
variable {t:SetTable}
def aE1 (G:t.Good) (h:Int):∃N,N<10*turns t.mask/\t.slot (advs t.mask N (t.probeStart h)).j= .empty/\∀m,m<N->t.slot (advs t.mask m (t.probeStart h)).j≠ .empty:=by
 obtain⟨N,h1,h2⟩:=aHr G.round G.dum G.room (t.probeStart h) (aFk t h).1 (aFk t h).2;induction N using Mf with
 |_ N ih=>
  by_cases hx:∃m,m<N/\t.slot (advs t.mask m (t.probeStart h)).j= .empty
  ·obtain⟨m,hm,e⟩:=hx;exact ih m hm (by omega) e
  ·exact⟨N,h1,h2,λm hm e=>hx ⟨m,hm,e⟩⟩
def Small (t:SetTable):Prop:=(t.mask=7/\t.place.size<=4)∨(t.mask=31/\t.place.size<=18)
def Small.odd (S:t.Small):t.mask % 2=1:=by rcases S with ⟨e,_⟩|⟨e,_⟩<;>rw [e]
end SetTable
section
variable {prog:Program} {w:World} {K:Type} [DecidableEq K] (knd:HeapKind prog w K)
def lF (s:Shared) (a:Addr) (l:Bool) (xs:List (K×Addr)):Prop:=∃o es ep t,jF knd s a o es ep t xs/\t.Small/\t.plain=true/\t.led=l
variable {knd} {A:Around} {E:Value->Shared->Prop} {s:Shared} {a b:Addr} {o:Obj} {es:Array (Int×Value)} {ep:Nat} {t:SetTable} {xs:List (K×Addr)} {k:K} {l:Bool}
def lF.at (D:tW knd) {s':Shared} (S:lF knd s a l xs) (h1:∀o,s.heap.get? a=some o->s'.heap.get? a=some o) (h2:∀b o,o.cls= .type "tuple"->s.heap.get? b=some o->s'.heap.get? b=some o):lF knd s' a l xs:=by
 obtain⟨o,es,ep,t,S,r⟩:=S;exact⟨o,es,ep,t,⟨h1 o S.ho,S.hex,S.hd,S.he,S.good,S.size,λx hx=>D.mono (S.keys x hx) h2,S.nd,S.way⟩,r⟩
def aG9 (x:Addr) (es:Array (Int×Value)):byScan (.ref x) es=false:=rfl
def oF (D:tW knd) (S:lF knd s a l xs) (hn:xs.length<18) (hu:knd.room A) (hkey:knd.is s.heap k b)
  (hold:(∃x∈xs,x.1=k)->Q false s)
  (hnew:(∀x∈xs,x.1≠k)->∀h' xs',Cw a s.heap h'->xs'.Perm ((k,b)::xs)->lF knd {s with heap:=h'} a l xs'->Q true {s with heap:=h'}):
  wpAny (model prog w) A (setAddHashed a (.ref b) (knd.hash k)) Q E s:=by
 obtain⟨o,es,ep,t,S,sm,pl,rfl⟩:=S;unfold setAddHashed;refine By ?_;unfold setAddHashedIn;refine Aa (Dz S.ho S.hd S.fits ?_);dsimp only;rw [aG9];simp only [Ao,if_false];obtain⟨N,n1,n2,n3⟩:=SetTable.aE1 S.good (knd.hash k);have bigm:10*Jb t.mask<=100000:=by
  unfold Jb;rcases sm with ⟨e,_⟩|⟨e,_⟩<;>rw [e]<;>decide
 refine Aa (vG S sm.odd D hu hkey n2 n1 n3 (λh=>?_) (λh=>?_) 100000 0 none rfl (Bb _) (by omega) λm hm=>absurd hm (Dl m))
 ·exact Af (hold h)
 ·dsimp only;refine Aa (Dz S.ho S.hd S.fits ?_);dsimp only;have lowj:(SetTable.advs t.mask N (t.probeStart (knd.hash k))).j<=t.mask:=SetTable.aAr _ _ (SetTable.aN8 _ _);have hsz:t.place.size+1<=t.mask:=by rcases sm with ⟨e,h⟩|⟨e,h⟩<;>omega
  have S':=S.add hkey h (λh' sb x c hx=>D.keep hx S.ho S.hex sb) n2 n3 lowj hsz rfl rfl;have hb:=(SetTable.gY S.good.rise (SetTable.advs t.mask N (t.probeStart (knd.hash k))).j).1;have psz:(t.put (SetTable.advs t.mask N (t.probeStart (knd.hash k))).j).1.place.size=t.place.size+1:=by
   rw [SetTable.jM S.good.dum];exact SetTable.mZ _ _ hb
  have pmk:(t.put (SetTable.advs t.mask N (t.probeStart (knd.hash k))).j).1.mask=t.mask:=by rw [SetTable.jM S.good.dum]
  have ppl:(t.put (SetTable.advs t.mask N (t.probeStart (knd.hash k))).j).1.plain=true:=by rw [SetTable.jM S.good.dum];exact pl
  have pld:(t.put (SetTable.advs t.mask N (t.probeStart (knd.hash k))).j).1.led=t.led:=by rw [SetTable.jM S.good.dum]
  have p2:(t.put (SetTable.advs t.mask N (t.probeStart (knd.hash k))).j).2=Cb t.place (SetTable.advs t.mask N (t.probeStart (knd.hash k))).j:=by rw [SetTable.jM S.good.dum]
  have pm:=(Qs (a:=(k,b)) (l₁:=xs.take (Cb t.place (SetTable.advs t.mask N (t.probeStart (knd.hash k))).j)) (l₂:=xs.drop (Cb t.place (SetTable.advs t.mask N (t.probeStart (knd.hash k))).j)));rw [Gz]at pm;have fl:(t.put (SetTable.advs t.mask N (t.probeStart (knd.hash k))).j).1.fill=t.place.size+1:=by
   unfold Qe;rw [psz,S'.good.dum];rfl
  rw [ppl];simp only [if_true];refine Aa (D.byValue hkey ?_);simp only [if_true,p2];have els:=S'.len;have eln:=S.len;have hxl:=pm.length_eq;rw [Ah]at hxl;refine Aa (Lx S.ho S.hd ?_ (by rw [els,hxl];unfold sizeLine;omega));by_cases full:(t.put (SetTable.advs t.mask N (t.probeStart (knd.hash k))).j).1.tooFull=true
  ·rw [full];simp only [Gw,Sn,if_true];have fd:t.mask=7/\t.place.size=4:=by
    unfold Os at full;rw [fl,pmk]at full;have full:=of_decide_eq_true full;have:=S.size;rcases sm with ⟨e,h⟩|⟨e,h⟩<;>rw [e]at full<;>omega
   have e5:es.size=4:=by rw [<-S.size];exact fd.2
   have eg:Dh (SetTable.grown (es.size+1))=32:=by rw [e5];decide
   refine Aa (wY S' (λh' sb x c hx=>D.keep hx S'.ho S'.hex sb) (by rw [eg];exact SetTable.aRb) (by rw [els,hxl,eg, <-eln,e5];decide) (by rw [eg];unfold sizeLine;omega) λh' o' es' t' xs' sb px e1 e2 e3 S2=>?_);refine Af ?_;refine hnew h h' xs' (Mi (Bw ..) sb) (px.trans pm) ⟨o',es',_,t',S2,.inr ⟨by rw [e1,eg],?_⟩,by rw [e3];exact ppl,by rw [e2];exact pld⟩;rw [S2.size,S2.len,px.length_eq,hxl, <-eln,e5];decide
  ·have full:=Bool.eq_false_iff.mpr full;rw [full];simp only [Gx,Ao,if_false];refine Af (hnew h _ _ (Bw ..) pm ⟨_,_,_,_,S',?_,ppl,pld⟩);unfold Os at full;rw [fl,pmk]at full;have full:=of_decide_eq_false full;have sz:=S.size;unfold SetTable.Small;rw [pmk,psz];rcases sm with ⟨e,h⟩|⟨e,h⟩
   ·left
    rw [e]at full;exact⟨e,by omega⟩
   ·right
    exact⟨e,by omega⟩
end
def qO (n:Nat) (i:Int) (tk):hashByValue n (.int i tk)=pure true:=by cases n<;>rfl
def vH (n:Nat) {v:Value} (h:carriedByValue v=true):ofAClassStatement n v=pure false:=by
 cases v with
 |ref a=>cases h
 |_=>first|rfl|(unfold ofAClassStatement;rfl)
section
variable {prog:Program} {w:World} {K:Type} [DecidableEq K] {knd:KeyKind prog w K} {A:Around} {E:Value->Shared->Prop} {s:Shared}
def ItemsAre.ints (hv:∀k v,knd.is k v=true->∃i tk,v=Cz i tk) {x:List K} {vs:List Value} (hx:ItemsAre knd x vs):∀v∈vs,∃i tk,v=Cz i tk:=by
 induction hx with
 |nil=>intro v hv;simp at hv
 |@cons k v' ks vs h1 _ ih=>
  intro v hm;rcases List.mem_cons.mp hm with rfl|hm
  ·exact hv _ _ h1
  ·exact ih v hm
def oY (hv:∀k v,knd.is k v=true->∃i tk,v=Cz i tk) {ks:List K} (hk:IsTupleKey knd s.heap ks a) (h:Q true s):wpAny (model prog w) A (hashByValue (n+1) (.ref a)) Q E s:=by
 have hT:=hk.typeIs;obtain⟨o,items,m,ho,_,hd,hi⟩:=hk;unfold hashByValue;refine Aa (Ey hT F.slot_tuple_hash.lookup ?_);show wpAny _ _ (seqItems? (.ref a)>>=_) _ _ s;refine Aa (Ew ho hd ?_);refine Aa ?_;show wpAny _ _ (forIn items _ _) _ _ s;rw [<-Eo];refine Ef _ (λrest r s'=>r.1=none/\s'=s/\∀v∈rest,∃i tk,v=Cz i tk) _ ?_ ?_ _ _ ⟨rfl,rfl,hi.ints hv⟩
 ·rintro v rest r s' ⟨hr,rfl,hall⟩;obtain⟨i,tk,rfl⟩:=hall v Ae;rw [qO];refine Aa (Af ?_);simp only [Br,Ao,if_false];exact Af ⟨rfl,rfl,λu hu'=>hall u (Ad _ hu')⟩
 ·rintro⟨r1,r2⟩ s' ⟨hr,rfl,_⟩;simp only at hr;subst hr;exact Af h
def pW (hv:∀k v,knd.is k v=true->∃i tk,v=Cz i tk) {x:K×List K} (hk:bI knd s.heap x a) (h:Q true s):wpAny (model prog w) A (hashByValue 8 (.ref a)) Q E s:=by
 have hT:=hk.typeIs;obtain⟨o,v,b,m,ho,_,hd,h1,h2⟩:=hk;unfold hashByValue;refine Aa (Ey hT F.slot_tuple_hash.lookup ?_);show wpAny _ _ (seqItems? (.ref a)>>=_) _ _ s;refine Aa (Ew ho hd ?_);refine Aa ?_;show wpAny _ _ (forIn _ _ _) _ _ s;rw [<-Eo];refine Ef _ (λrest r s'=>r.1=none/\s'=s/\∀u∈rest,u=v∨u= .ref b) _ ?_ ?_ _ _ ⟨rfl,rfl,λu hu=>by simpa using hu⟩
 ·rintro u rest r s' ⟨hr,rfl,hall⟩;rcases hall u Ae with rfl|rfl
  ·obtain⟨i,tk,rfl⟩:=hv _ _ h1;rw [qO];refine Aa (Af ?_);simp only [Br,Ao,if_false];exact Af ⟨rfl,rfl,λu hu'=>hall u (Ad _ hu')⟩
  ·refine Aa (oY hv h2 ?_);simp only [Br,Ao,if_false];exact Af ⟨rfl,rfl,λu hu'=>hall u (Ad _ hu')⟩
 ·rintro⟨r1,r2⟩ s' ⟨hr,rfl,_⟩;simp only at hr;subst hr;exact Af h
def rW {ks:List K} (hk:IsTupleKey knd s.heap ks a) (h:Q false s):wpAny (model prog w) A (ofAClassStatement (n+1) (.ref a)) Q E s:=by
 have hT:=hk.typeIs;obtain⟨o,items,m,ho,_,hd,hi⟩:=hk;unfold ofAClassStatement;refine Aa (Il hT ?_);dsimp only;simp only [beq_self_eq_true,if_true];refine Aa (Af ?_);simp only [Br,Ao,if_false];refine Aa (Ew ho hd ?_);dsimp only;refine Aa ?_;rw [<-Eo];refine Ef _ (λrest r s'=>r.1=none/\s'=s/\∀v∈rest,carriedByValue v=true) _ ?_ ?_ _ _ ⟨rfl,rfl,hi.byValue⟩
 ·rintro v rest r s' ⟨hr,rfl,hall⟩;rw [vH _ (hall v Ae)];refine Aa (Af ?_);simp only [Ao,if_false];exact Af ⟨rfl,rfl,λu hu'=>hall u (Ad _ hu')⟩
 ·rintro⟨r1,r2⟩ s' ⟨hr,rfl,_⟩;simp only at hr;subst hr;exact Af h
def tD {x:K×List K} (hk:bI knd s.heap x a) (h:Q false s):wpAny (model prog w) A (ofAClassStatement 8 (.ref a)) Q E s:=by
 have hT:=hk.typeIs;obtain⟨o,v,b,m,ho,_,hd,h1,h2⟩:=hk;unfold ofAClassStatement;refine Aa (Il hT ?_);dsimp only;simp only [beq_self_eq_true,if_true];refine Aa (Af ?_);simp only [Br,Ao,if_false];refine Aa (Ew ho hd ?_);dsimp only;refine Aa ?_;rw [<-Eo];refine Ef _ (λrest r s'=>r.1=none/\s'=s/\∀u∈rest,u=v∨u= .ref b) _ ?_ ?_ _ _ ⟨rfl,rfl,λu hu=>by simpa using hu⟩
 ·rintro u rest r s' ⟨hr,rfl,hall⟩;rcases hall u Ae with rfl|rfl
  ·rw [vH _ (knd.byValue _ _ h1)];refine Aa (Af ?_);simp only [Ao,if_false];exact Af ⟨rfl,rfl,λu hu'=>hall u (Ad _ hu')⟩
  ·refine Aa (rW h2 ?_);simp only [Ao,if_false];exact Af ⟨rfl,rfl,λu hu'=>hall u (Ad _ hu')⟩
 ·rintro⟨r1,r2⟩ s' ⟨hr,rfl,_⟩;simp only at hr;subst hr;exact Af h
def IsTupleKey.monoS {ks:List K} (x:IsTupleKey knd h ks a) (hs:∀b o,o.cls= .type "tuple"->h.get? b=some o->h'.get? b=some o):IsTupleKey knd h' ks a:=by
 obtain⟨o',items,n,ho',hc,hd',hi⟩:=x;exact⟨o',items,n,hs _ _ hc ho',hc,hd',hi⟩
def bI.monoS {x:K×List K} (hx:bI knd h x a) (hs:∀b o,o.cls= .type "tuple"->h.get? b=some o->h'.get? b=some o):bI knd h' x a:=by
 obtain⟨o',v,b,n,ho',hc,hd',h1,h2⟩:=hx;exact⟨o',v,b,n,hs _ _ hc ho',hc,hd',h1,h2.monoS hs⟩
def aNa (hv:∀k v,knd.is k v=true->∃i tk,v=Cz i tk):tW (dZ knd) where
 mono:=λx hs=>bI.monoS x hs
 byValue:=λx h=>pW hv x h
 plain:=λx h=>tD x h
end
namespace F
def cZ:Slot "set_iterator" "__next__" "set_iterator.__next__":=
 .of (owner:="set_iterator") (n:="__next__") (by rw [Nt,Jz];kernel_rfl) (by decide+kernel) (by decide+kernel) (by decide+kernel)
  (by first|exact .inl (by decide+kernel)|exact .inr (by decide+kernel)) (by rw [On];kernel_rfl)
def iZ:Slot "set_iterator" "__iter__" "set_iterator.__iter__":=
 .of (owner:="set_iterator") (n:="__iter__") (by rw [Nt,Jz];kernel_rfl) (by decide+kernel) (by decide+kernel) (by decide+kernel)
  (by first|exact .inl (by decide+kernel)|exact .inr (by decide+kernel)) (by rw [On];kernel_rfl)
def oR:entryFor table "set_iterator.__next__"=some Builtin.«set_iterator.__next__»:=Ud (by kernel_rfl)
def oO:entryFor table "set_iterator.__iter__"=some Builtin.«dict_keyiterator.__iter__»:=
 entryFor_alias (id':="dict_keyiterator.__iter__") (by kernel_rfl) (by first|rfl|decide+kernel) (by decide+kernel) (by kernel_rfl)
def aAb:entryFor table "set.__iter__"=some Builtin.«frozenset.__iter__»:=
 entryFor_alias (id':="frozenset.__iter__") (by kernel_rfl) (by first|rfl|decide+kernel) (by decide+kernel) (by kernel_rfl)
def mQ:Manifest.owners.lookup (String.ofList ['r','o','t','a','r','e','t','i','_','t','e','s'].reverse)=some Manifest.sig_set_iterator:=by kernel_rfl
def nU (a:Value):argsOk "set_iterator.__next__" ⟨[a],[]⟩:=by
 unfold argsOk;rw [signature?_of (id:="set_iterator.__next__") (n:=['_','_','t','x','e','n','_','_']) (o:=['r','o','t','a','r','e','t','i','_','t','e','s']) (by kernel_rfl) mQ];kernel_rfl
def nP (a:Value):argsOk "set_iterator.__iter__" ⟨[a],[]⟩:=by
 unfold argsOk;rw [signature?_of (id:="set_iterator.__iter__") (n:=['_','_','r','e','t','i','_','_']) (o:=['r','o','t','a','r','e','t','i','_','t','e','s']) (by kernel_rfl) mQ];kernel_rfl
end F
theorem fH {α:Type}:∀{l:List α} {n:Nat} (h:n<l.length),(l[n]::l.eraseIdx n).Perm l
 | [],_,h=>absurd h (Dl _)
 |a::l,0,_=>Gk _
 |a::l,n+1,h=>by
  have h':n<l.length:=Od h;show(l[n]::a::l.eraseIdx n).Perm (a::l);exact(Kv _ _ _).trans ((fH (Od h)).cons a)
def aAp (next:Nat->Nat) (xs:Array α):(pickOrder next xs).toList.Perm xs.toList:=by
 have go:∀(fuel k:Nat) (left:List α) (out:Array α),left.length=fuel->(Ma next fuel k left out).toList.Perm (out.toList++left):=by
  intro fuel;induction fuel with
  |zero=>
   intro k left out h;have:left=[]:=List.length_eq_zero_iff.mp h;subst this;simp [Ma]
  |succ fuel ih=>
   intro k left out h;have hlt:next k % left.length<left.length:=Ku _ (by omega);rw [Ma,Ak hlt];dsimp only;refine(ih _ _ _ (by rw [List.length_eraseIdx_of_lt hlt];omega)).trans ?_;rw [Array.toList_push,Bi];refine List.Perm.append_left _ ?_;exact fH hlt
 exact go xs.size 0 xs.toList #[] (by simp)
section
variable {prog:Program} {w:World} {A:Around} {E:Value->Shared->Prop} {s:Shared}
def gM (w:World) (S:Addr) (es:Array (Int×Value)) (ep:Nat):List Value:=if w.params.followText "set-order"=true then(pickOrder (w.params.setOrder S ep) es).toList.map (·.2)else es.toList.map (·.2)
def jZ (w:World) (S:Addr) (es:Array (Int×Value)) (ep:Nat):(gM w S es ep).Perm (es.toList.map (·.2)):=by
 unfold gM;split
 ·exact(aAp _ _).map _
 ·exact Gk _
def zG (w:World) (t:SetTable) (slot i:Nat):Prop:=w.params.followText "set-order"=true∨Cb t.place slot=i
def aHy (R:SetTable.uE xs) {i:Nat} (h:i<xs.size):Cb xs (xs.getD i 0+1)=i+1:=by
 obtain⟨h1,h2,h3⟩:=SetTable.gY R (xs.getD i 0+1);rcases Ij (Cb xs (xs.getD i 0+1)) (i+1)with z|z|z
 ·have:=h3 i (by omega) h;omega
 ·exact z
 ·have:=h2 (i+1) z;have:=R i (i+1) (by omega) (by omega);omega
def aBn {S:Addr} {o:Obj} {es:Array (Int×Value)} {ep:Nat} {t:SetTable} {slot i:Nat} {Q:Option (Value×Nat)->Shared->Prop} (ho:s.heap.get? S=some o) (hd:o.data= .set es ep t) (hf:t.fits es.size=true) (hr:SetTable.uE t.place) (hpl:t.plain=true) (hl:t.led= !w.params.followText "set-order")
  (hs:zG w t slot i) (h1:∀v slot',(gM w S es ep)[i]? =some v->zG w t slot' (i+1)->Q (some (v,slot')) s) (h2:es.size<=i->Q none s):wpAny (model prog w) A (setNext S slot i ep) Q E s:=by
 have psz:t.place.size=es.size:=by
  simp only [Qd,Fz,beq_iff_eq,decide_eq_true_eq]at hf;exact hf.1
 unfold setNext setsByText;refine Aa (Dz ho hd hf ?_);dsimp only;refine Aa (Aa (Hr (Af ?_)));dsimp only [model];have olen:(gM w S es ep).length=es.size:=by rw [(jZ w S es ep).length_eq,Ab,As]
 cases hb:w.params.followText "set-order"
 ·simp only [Ao,if_false];have hs:Cb t.place slot=i:=by
   rcases hs with z|z
   ·rw [hb]at z;cases z
   ·exact z
  show wpAny _ _ (if(!t.plain && decide (es.size>1))=true then _ else _) _ _ _;rw [hpl];simp only [Br,Hy,Ao,if_false];show wpAny _ _ ((if(!t.led && !es.isEmpty)=true then _ else _)>>=_) _ _ _;rw [hl,hb];simp only [Gw,Br,Hy,Ao,if_false];refine Aa (Af ?_);rw [hs];have eo:(gM w S es ep)[i]? =(es[i]?).map (·.2):=by
   unfold gM;rw [hb];simp
  by_cases hi:i<es.size
  ·have hp:i<t.place.size:=by omega
   rw [Bc hi,Bc hp];refine Af (h1 _ _ (by rw [eo,Bc hi];rfl) (.inr ?_));have:=aHy hr hp;simpa [Eu,hp]using this
  ·rw [Nl (by omega)];exact Af (h2 (by omega))
 ·simp only [if_true];rw [if_neg (by simp)];unfold setWalk setsByText;refine Aa (Aa (Dz ho hd hf ?_));dsimp only;refine Aa (Aa (Hr (Af ?_)));dsimp only [model];rw [hb];simp only [if_true];refine Aa (Hr ?_);refine Af ?_;dsimp only [model];have eo:(gM w S es ep)[i]? =((pickOrder (w.params.setOrder S ep) es)[i]?).map (·.2):=by
   unfold gM;rw [hb];simp
  cases hg:(pickOrder (w.params.setOrder S ep) es)[i]? with
  |none=>
   rw [hg]at eo;have:=List.getElem?_eq_none_iff.mp eo;exact Af (h2 (by omega))
  |some e=>
   rw [hg]at eo;exact Af (h1 _ _ eo (.inl hb))
def oM (h:Heap) (I S:Addr) (slot i n ep:Nat):Prop:=∃o,h.get? I=some o/\o.cls= .type "set_iterator"/\o.data= .fields #[.int slot 0,.int i 0,.ref S,.int n 0,.int ep 0]
def oM.typeIs {I S:Addr} {slot i n ep:Nat} (h:oM s.heap I S slot i n ep):s.TypeIs (.ref I) "set_iterator":=let⟨o,ho,hc,_⟩:=h;⟨o,ho,hc⟩
variable {I S:Addr} {o:Obj} {es:Array (Int×Value)} {ep:Nat} {t:SetTable} {slot i:Nat}
def oX {Q:Option Value->Shared->Prop} (hh:A.handled=none) (hit:oM s.heap I S slot i es.size ep) (ho:s.heap.get? S=some o) (hd:o.data= .set es ep t) (hf:t.fits es.size=true) (hr:SetTable.uE t.place) (hpl:t.plain=true) (hl:t.led= !w.params.followText "set-order")
  (hs:zG w t slot i) (h1:∀v slot' h',(gM w S es ep)[i]? =some v->zG w t slot' (i+1)->oM h' I S slot' (i+1) es.size ep->Cw I s.heap h'->Q (some v) {s with heap:=h'}) (h2:es.size<=i->∀h',Vh I s.heap h'->Q none {s with heap:=h'}):
  wpAny (model prog w) A (pyNext (.ref I)) Q E s:=by
 obtain⟨oi,hoi,hci,hdi⟩:=id hit;unfold pyNext;refine Aa (Pi (Jg (name:=Au "__next__") hit.typeIs F.cZ
  (Dg F.cZ hit.typeIs F.oR ?_ (F.nU _))))
 unfold Builtin.«set_iterator.__next__»;refine Aa (m:=slotArgs "__next__" 0 _) (Af ?_);refine Aa (Oj hoi hdi ?_);dsimp only;refine Aa (Rf ho hd hf ?_);rw [if_neg (by simp)];simp only [Ik];refine Aa (aBn ho hd hf hr hpl hl hs (λv slot' e ok=>?_) λhge=>?_)
 ·dsimp only;refine Aa (Io hoi hdi (by simp) ?_);have hoi2:=Cc (Ny (·.setIfInBounds 0 (rawInt slot'))) hoi (Ji (Fd hdi _));have hdi2:=Fd hdi (·.setIfInBounds 0 (rawInt slot'));refine Aa (Io hoi2 hdi2 (by simp) ?_);refine Af ⟨_,rfl,Af (h1 v slot' _ e ok ⟨_,Cc _ hoi2 (Ji (Fd hdi2 _)),(Ks ..).trans ((Ks ..).trans hci),by rw [Fd hdi2];simp [rawInt]⟩ (Mi (Bw ..) (Bw ..)))⟩
 ·dsimp only;refine Aa (Io hoi hdi (by simp) ?_);show wpAny _ _ (newExc (.type "StopIteration") []>>=_) _ _ _;refine Aa ?_;simp only [newExc,newTuple];refine Aa (Cv ?_ (by size_fits));refine Aa (m:=firstArgMember _ _) (Np (a:=Ce) (by first|rfl|(simp only [firstArgMember];rfl)) ?_);refine Cv ?_ (by size_fits);simp only [raiseNew];refine Aa (wpAny_handled ?_);rw [show A.in1.handled=none from hh];refine Aa (Af (wpAny_throw ?_));refine Aa (Fh (T:="StopIteration") (b:=true) ⟨_,Ar _ rfl,rfl⟩ isSubtype_stop ?_);exact Af (h2 hge _ (((Bw ..).extBut.push _).push _))
def Walks.set (hh:A.handled=none) (hne:S≠I) (o:Obj) (hd:o.data= .set es ep t) (hf:t.fits es.size=true) (hr:SetTable.uE t.place) (hpl:t.plain=true) (hl:t.led= !w.params.followText "set-order"):
  Walks prog w A I [I,S] [I] es.size (λi v=>(gM w S es ep)[i]? =some v) (λi h=>(∃slot,oM h I S slot i es.size ep/\zG w t slot i)/\h.get? S=some o) where
 sub:=λb hb=>by simp at hb;simp [hb]
 frame:=λ_ _ _ st hk=>by
  obtain⟨⟨slot,⟨oi,h1,h2⟩,h3⟩,h4⟩:=st;exact⟨⟨slot,⟨oi,hk I (by simp) _ h1,h2⟩,h3⟩,hk S (by simp) _ h4⟩
 item:=λi s Q E hi st hQ=>by
  obtain⟨⟨slot,h1,h3⟩,h4⟩:=st;refine oX hh h1 h4 hd hf hr hpl hl h3 (λv slot' h' e ok it' sb=>?_) λhge=>absurd hi (by omega);exact hQ _ h' s.toks e ⟨⟨slot',it',ok⟩,(sb.2 S hne).trans h4⟩ λb o hb e=>sb.extBut b o (λh=>hb (by simp [h])) e
 done:=λs Q E st hQ=>by
  obtain⟨⟨slot,h1,h3⟩,h4⟩:=st;refine oX hh h1 h4 hd hf hr hpl hl h3 (λv slot' h' e ok it' sb=>?_) λhge h' he'=>hQ h' s.toks λb o hb e=>he' b o (λh=>hb (by simp [h])) e;have olen:(gM w S es ep).length=es.size:=by rw [(jZ w S es ep).length_eq,Ab,As]
  rw [Co (by omega)]at e;cases e
 self:=λ_ _ _ _ st hQ=>by
  obtain⟨⟨slot,h1,h3⟩,h4⟩:=st;refine Ly h1.typeIs F.iZ (Dg F.iZ h1.typeIs F.oO ?_ (F.nP _));show wpAny _ _ (ret (.ref I)) _ _ _;exact Af ⟨_,rfl,"set_iterator",_,h1.typeIs,F.cZ.lookup,hQ⟩
end
namespace F
def aDa:isSubtype (.type "set") (.type "set")=pure true:=by rw [On];kernel_rfl
end F
section
variable {prog:Program} {w:World} {A:Around} {E:Value->Shared->Prop} {s:Shared} {I S:Addr} {o:Obj} {es:Array (Int×Value)} {ep:Nat} {t:SetTable}
def wW {Q:Value->Shared->Prop} (ho:s.heap.get? S=some o) (hex:o.ExactSet) (hd:o.data= .set es ep t) (hf:t.fits es.size=true) (hpl:t.plain=true)
  (hQ:Q (.ref s.heap.objs.size) {s with heap:=s.heap.push {cls:= .type "set_iterator",data:= .fields #[.int 0 0,.int 0 0,.ref S,.int es.size 0,.int ep 0]}}):wpAny (model prog w) A (pyIter (.ref S)) Q E s:=by
 have hT:s.TypeIs (.ref S) "set":=⟨o,ho,hex.1⟩;refine Ly hT Tw (Dg Tw hT F.aAb ?_ (F.args_set_iter_1 _));unfold Builtin.«frozenset.__iter__»;refine Aa (m:=Qv "__iter__" _) (Af ?_);unfold Qw;refine Aa (Aa (Rf ho hd hf (Af ?_)));unfold setDrawn setsByText;refine Aa (Aa (Dz ho hd hf ?_));dsimp only;refine Aa (Aa (Hr (Af ?_)));show wpAny _ _ (pure (!(model prog w).w.params.followText "set-order" && (!t.plain && decide (es.size>1)))) _ _ _;rw [hpl];simp only [Br,Hy,Gx];refine Af ?_;simp only [Ao,if_false];refine Aa (Af ?_);refine Aa (wpAny_setEpoch_of ho hd hf ?_);unfold newFields;refine Aa (Cv (Af ⟨_,rfl,"set_iterator",_,⟨_,Ar _ rfl,rfl⟩,F.cZ.lookup,?_⟩));simpa [rawInt]using hQ
def mY {Q:List Value->Shared->Prop} (hh:A.handled=none) (ho:s.heap.get? S=some o) (hex:o.ExactSet) (hd:o.data= .set es ep t) (hf:t.fits es.size=true) (hr:SetTable.uE t.place) (hpl:t.plain=true) (hl:t.led= !w.params.followText "set-order") (hn:es.size<=sizeLine)
  (hQ:∀h' tk,s.heap.objs.size<h'.objs.size->(∀b o,s.heap.get? b=some o->h'.get? b=some o)->Q (gM w S es ep) {s with heap:=h',toks:=tk}):wpAny (model prog w) A (collect (.ref S)) Q E s:=by
 have hSlt:S<s.heap.objs.size:=Ap ho;unfold collect;refine Aa (Oi (Ci F.entry_proto_collect ?_));rw [Bt F.plain_proto_collect _];show wpAny _ A.in1 (newList []>>=λl=>again (.builtin "list.__iadd__" ⟨[l,.ref S],[]⟩)) _ _ s;refine Aa (Cv ?_);refine Af ⟨Do Rx _,Ci F.entry_list_iadd ?_⟩;rw [Bt Rx _];have ho1:(s.heap.push {cls:= .type "list",data:= .seq ([]:List Value).toArray}).get? S=some o:=Ai _ ho;have hT1:Jt {s with heap:=s.heap.push {cls:= .type "list",data:= .seq ([]:List Value).toArray}} (.ref S) "set":=⟨o,ho1,hex.1⟩;have hS₁:(s.heap.push {cls:= .type "list",data:= .seq ([]:List Value).toArray}).get? s.heap.objs.size=some {cls:= .type "list",data:= .seq ([]:List Value).toArray}:=Ar _ rfl;have hne:s.heap.objs.size≠S:=Ha hSlt;have h1:Ki (.ref s.heap.objs.size) (.ref S)=false:=by simp [Ki,hne]
 show wpAny _ A.in1 (Gq (.ref s.heap.objs.size) (.ref S) (.ref s.heap.objs.size)) _ _ _;unfold Gq;refine Aa (Il hT1 ?_);rw [if_neg (by rw [h1];decide)];refine Aa (wW ho1 hex hd hf hpl ?_);have esz:(s.heap.push {cls:= .type "list",data:= .seq ([]:List Value).toArray}).objs.size=s.heap.objs.size+1:=Dk ..;rw [esz];generalize hH2:(s.heap.push {cls:= .type "list",data:= .seq ([]:List Value).toArray}).push {cls:= .type "set_iterator",data:= .fields #[.int 0 0,.int 0 0,.ref S,.int es.size 0,.int ep 0]}=H2;have keep2:∀b o,s.heap.get? b=some o->H2.get? b=some o:=λb o e=>by rw [<-hH2];exact Ai _ (Ai _ e)
 have ho2:H2.get? S=some o:=keep2 _ _ ho;have hL2:H2.get? s.heap.objs.size=some {cls:= .type "list",data:= .seq ([]:List Value).toArray}:=by rw [<-hH2];exact Ai _ hS₁
 have hI2:H2.get? (s.heap.objs.size+1)=some {cls:= .type "set_iterator",data:= .fields #[.int 0 0,.int 0 0,.ref S,.int es.size 0,.int ep 0]}:=by rw [<-hH2, <-esz];exact Ar _ rfl
 have hT2:Jt {s with heap:=H2} (.ref S) "set":=⟨o,ho2,hex.1⟩;refine Aa (By ?_);unfold Vm;refine Aa (Ey hT2 F.slot_set_len.lookup ?_)
 (generalize hid:("set.__len__":String)=id0;(fail_if_success (clear hid id0));wp_delta;rw [show splitId id0=some ("set","__len__")from by subst hid;decide+kernel];subst hid)
 refine Aa (Fh (b:=true) hT2 F.aDa ?_);simp only [Br,Ao,if_false];rw [if_pos (by decide+kernel)];refine Aa (Il hT2 ?_);refine Af ?_;rw [if_pos (by decide+kernel)];show wpAny _ A.in1 (rule "list.extend.makes-room">>=λ_=>Vl (.ref s.heap.objs.size)>>=λ_=>
  again (.builtin "list.extend.loop" ⟨[.ref s.heap.objs.size,.ref (s.heap.objs.size+1),.ref s.heap.objs.size],[]⟩)) _ _ _
 refine Aa (Iy ?_);refine Aa ?_;show wpAny _ A.in1 (updateSeq s.heap.objs.size (·.push .none)>>=λ_=>updateSeq s.heap.objs.size (·.pop)) _ _ _;refine Aa (Hz hL2 rfl ?_);have hS₂:=Cc (Ea (·.push Ce)) hL2 rfl;refine Hz hS₂ rfl ?_;have hS₃:=Cc (Ea (·.pop)) hS₂ rfl;have oth:∀b o,b≠s.heap.objs.size->H2.get? b=some o->((H2.update s.heap.objs.size (Ea (·.push Ce))).update s.heap.objs.size (Ea (·.pop))).get? b=some o:=
  λb o hb e=>(Da _ _ (Cy hb)).trans ((Da _ _ (Cy hb)).trans e)
 have hneI:S≠s.heap.objs.size+1:=Ax (Ei hSlt);have W:=(Walks.set (prog:=prog) (A:=A.in1) (I:=s.heap.objs.size+1) (S:=S) (by simp [hh]) hneI o hd hf hr hpl hl).toS;have hSf:s.heap.objs.size∉[s.heap.objs.size+1,S]:=by
  simp only [Ca,Fc,Bm,or_false,not_or];exact⟨Ax (Ed _),hne⟩
 refine Af ⟨Do F.plain_extend_loop _,codeAny_extend_loopS W hn _ hSf _ es.size 0 _ _ _ rfl (Bb _)
  ⟨⟨0,⟨_,oth _ _ (Ha (Ed _)) hI2,rfl,rfl⟩,.inr ?_⟩,oth _ _ hne.symm ho2⟩ hS₃ (ItemsOf.nil _) λs' acc' c' hm hS' hacc=>?_⟩
 ·have:=(SetTable.gY hr 0).2.1;rcases Fe (Cb t.place 0)with z|z
  ·exact z
  ·exact absurd (this 0 z) (Dl _)
 ·show wpAny _ A (load s.heap.objs.size>>=_) _ _ s';refine Aa (Pc hS' ?_);obtain⟨h',g',d',tk',os'⟩:=s';have eg:g'=s.gens:=hm.gens;have ed:d'=s.drawn:=hm.drawn;have eo:os'=s.os:=hm.os;subst eg;subst ed;subst eo;have ea:acc'.toList=gM w S es ep:=by
   apply Km;intro j;have olen:(gM w S es ep).length=es.size:=by rw [(jZ w S es ep).length_eq,Ab,As]
   by_cases hj:j<acc'.size
   ·rw [Bj,Bc hj];exact(hacc.2 j _ (Bc hj)).symm
   ·rw [Co (by rw [As];omega),Co (by rw [olen, <-hacc.1];omega)]
  refine Af ?_;rw [ea];refine hQ h' tk' (Ap hS') λb o e=>?_;have hb:b<s.heap.objs.size:=Ap e;exact hm.heap b o (by simp only [Ca,Fc,Bm,or_false,not_or];exact⟨Ax hb,Ax (Ei hb)⟩) (oth b o (Ax hb) (keep2 b o e))
end
end PySem
namespace PySem.W
open PyProof.Rows
def KasT.Way {α:Type} (lt:Nat->Nat->Bool) (P:Nat->Prop):KasT α->(α->Prop)->Prop
 | .ret a,Q=>Q a
 | .ask i j k,Q=>P i/\P j/\(k (lt i j)).Way lt P Q
variable {lt:Nat->Nat->Bool} {P:Nat->Prop}
def KasT.way_bind {α β:Type} {f:α->KasT β} {Q:β->Prop}:∀(t:KasT α),t.Way lt P (λa=>(f a).Way lt P Q)->(t.bind f).Way lt P Q
 | .ret _,h=>h
 | .ask i j k,h=>⟨h.1,h.2.1,KasT.way_bind (k (lt i j)) h.2.2⟩
def KasT.way_mono {α:Type} {Q Q':α->Prop} (hq:∀a,Q a->Q' a):∀(t:KasT α),t.Way lt P Q->t.Way lt P Q'
 | .ret _,h=>hq _ h
 | .ask i j k,h=>⟨h.1,h.2.1,KasT.way_mono hq (k (lt i j)) h.2.2⟩
def KasT.way_wp {α:Type} {cmp:Nat->Nat->(Bool->Shared->Prop)->Shared->Prop} {s:Shared} (hc:∀i j C,P i->P j->C (lt i j) s->cmp i j C s) {Q:α->Prop} {G:α->Shared->Prop} (hg:∀a,Q a->G a s):∀(t:KasT α),t.Way lt P Q->t.kasWp cmp G s
 | .ret _,h=>hg _ h
 | .ask i j k,h=>hc i j _ h.1 h.2.1 (KasT.way_wp hc hg (k (lt i j)) h.2.2)
structure pG (n:Nat) (lt:Nat->Nat->Bool):Prop where
 tot:∀i j,i<n->j<n->i≠j->lt i j=true∨lt j i=true
 asym:∀i j,lt i j=true->lt j i=false
 trans:∀i j k,lt i j=true->lt j k=true->lt i k=true
def vAt (p:Array Nat) (i:Nat):Nat:=p.getD i 0
def mU (n:Nat) (p:Array Nat):Prop:=p.toList.Perm (Bq n)
variable {n:Nat} {p:Array Nat}
def mU.size (h:mU n p):p.size=n:=by have:=h.length_eq;rw [Df,As]at this;exact this
def jR {p:Array Nat} {i:Nat}:vAt p i=(p[i]?).getD 0:=by
 unfold vAt Eu;by_cases h:i<p.size
 ·simp [h]
 ·simp [h]
def mU.low (h:mU n p) (hn:0<n) (i:Nat):vAt p i<n:=by
 rw [jR];cases e:p[i]? with
 |none=>exact hn
 |some x=>
  have:x∈p.toList:=Bn (by rw [Bj];exact e);exact List.mem_range.mp (h.mem_iff.mp this)
def mU.inj (h:mU n p) {i j:Nat} (hi:i<n) (hj:j<n) (e:i≠j):vAt p i≠vAt p j:=by
 have nd:p.toList.Nodup:=h.nodup_iff.mpr Fy;have si:i<p.toList.length:=by rw [As,h.size];exact hi
 have sj:j<p.toList.length:=by rw [As,h.size];exact hj
 intro z;have h1:vAt p i=p.toList[i]:=by rw [jR, <-Bj,Ak si];rfl
 have h2:vAt p j=p.toList[j]:=by rw [jR, <-Bj,Ak sj];rfl
 rw [h1,h2]at z;exact e ((Lb nd).mp z)
def mU.perm {q:Array Nat} (h:mU n p) (e:q.Perm p):mU n q:=(Array.perm_iff_toList_perm.mp e).trans h
def oK (lt:Nat->Nat->Bool) (p:Array Nat) (k:Nat):Prop:=∀i j,i<j->j<k->lt (vAt p i) (vAt p j)=true
def aCm (lt:Nat->Nat->Bool) (p:Array Nat) (k:Nat):Prop:=∀i j,i<j->j<k->lt (vAt p j) (vAt p i)=true
def oK.more (S:pG n lt) {k:Nat} (h:oK lt p k) (hk:1<=k) (e:lt (vAt p (k-1)) (vAt p k)=true):oK lt p (k+1):=λi j hi hj=>by
 by_cases z:j<k
 ·exact h i j hi z
 ·obtain rfl:j=k:=by omega
  by_cases y:i=j-1
  ·subst y;exact e
  ·exact S.trans _ _ _ (h i (j-1) (by omega) (by omega)) e
def aCm.more (S:pG n lt) {k:Nat} (h:aCm lt p k) (hk:1<=k) (e:lt (vAt p k) (vAt p (k-1))=true):aCm lt p (k+1):=λi j hi hj=>by
 by_cases z:j<k
 ·exact h i j hi z
 ·obtain rfl:j=k:=by omega
  by_cases y:i=j-1
  ·subst y;exact e
  ·exact S.trans _ _ _ e (h i (j-1) (by omega) (by omega))
theorem aD7 (S:pG n lt) (hn:0<n) (T:mU n p):∀(f k:Nat),1<=k->k+f=n->oK lt p k->(kas_asc p f k).Way lt (·<n) λm=>oK lt p m/\k<=m/\m<=n/\(m=n∨lt (vAt p m) (vAt p (m-1))=true)
 |0,k,h1,h2,h3=>⟨h3,Am _,by omega,.inl (by omega)⟩
 |f+1,k,h1,h2,h3=>by
  refine⟨T.low hn k,T.low hn (k-1),?_⟩;show KasT.Way lt (·<n) (if lt (vAt p k) (vAt p (k-1))=true then _ else _) _;by_cases c:lt (vAt p k) (vAt p (k-1))=true
  ·rw [if_pos c];exact⟨h3,Am _,by omega,.inr c⟩
  ·rw [if_neg c];have c':=(S.tot _ _ (T.low hn k) (T.low hn (k-1)) (T.inj (by omega) (by omega) (by omega))).resolve_left c;exact KasT.way_mono (λm z=>⟨z.1,by omega,z.2.2⟩) _ (aD7 S hn T f (k+1) (by omega) (by omega) (h3.more S h1 c'))
theorem aFz (S:pG n lt) (hn:0<n) (T:mU n p):∀(f k:Nat),1<=k->k+f=n->aCm lt p k->(kas_desc f p k 0).Way lt (·<n) λr=>r.1=p/\r.2.2=0/\aCm lt p r.2.1/\k<=r.2.1/\r.2.1<=n
 |0,k,h1,h2,h3=>⟨rfl,rfl,h3,Am _,by show k<=n;omega⟩
 |f+1,k,h1,h2,h3=>by
  refine⟨T.low hn k,T.low hn (k-1),?_⟩;show KasT.Way lt (·<n) (if lt (vAt p k) (vAt p (k-1))=true then _ else _) _;by_cases c:lt (vAt p k) (vAt p (k-1))=true
  ·rw [if_pos c,if_neg (by omega)];exact KasT.way_mono (λm z=>⟨z.1,z.2.1,z.2.2.1,by omega,z.2.2.2.2⟩) _ (aFz S hn T f (k+1) (by omega) (by omega) (h3.more S h1 c))
  ·rw [if_neg c];refine⟨T.low hn (k-1),T.low hn k,?_⟩;have c':=(S.tot _ _ (T.low hn k) (T.low hn (k-1)) (T.inj (by omega) (by omega) (by omega))).resolve_left c;show KasT.Way lt (·<n) (if lt (vAt p (k-1)) (vAt p k)=true then _ else _) _;rw [if_pos c'];exact⟨rfl,rfl,h3,Am _,by show k<=n;omega⟩
def aNe {m:Nat} (hm:m<=p.size) (i:Nat):vAt (kas_rev p 0 m) i=if i<m then vAt p (m-1-i)else vAt p i:=by
 rw [jR,kas_rev,getElem?_mirror_all hm];by_cases h:i<m
 ·rw [if_pos ⟨Bb _,h⟩,if_pos h,jR,Jj]
 ·rw [if_neg (λz=>h z.2),if_neg h,jR]
def aLd (S:pG n lt) (hn:0<n) (T:mU n p):(kas_count n p).Way lt (·<n) λr=>mU n r.2/\oK lt r.2 r.1/\1<=r.1/\r.1<=n:=by
 refine KasT.way_bind _ (KasT.way_mono (λm z=>?_) _ (aD7 S hn T (n-1) 1 (Am _) (by omega) λi j h1 h2=>by omega));obtain⟨z1,z2,z3,z4⟩:=z;by_cases e:m=n
 ·rw [if_pos (beq_iff_eq.mpr e)];exact⟨T,z1,z2,z3⟩
 ·rw [if_neg (λy=>e (beq_iff_eq.mp y))];have z4:=z4.resolve_left e;by_cases g:m>1
  ·rw [if_pos g];refine⟨T.low hn 0,T.low hn (m-1),?_⟩;have c:lt (p.getD 0 0) (p.getD (m-1) 0)=true:=z1 0 (m-1) (by omega) (by omega);rw [c];dsimp only;rw [if_pos rfl];exact⟨T,z1,z2,z3⟩
  ·rw [if_neg g];obtain rfl:m=1:=by omega
   refine KasT.way_bind _ (KasT.way_mono (λr y=>?_) _ (aFz S hn T (n-(1+1)) (1+1) (by omega) (by omega) λi j h1 h2=>?_))
   ·obtain⟨q,k,w⟩:=r;obtain⟨y1,y2,y3,y4,y5⟩:=y;have y1:q=p:=y1;have y2:w=0:=y2;subst y1 y2;show KasT.Way lt (·<n) (if 0>0 then _ else _) _;rw [if_neg (by omega)];have y3:aCm lt q k:=y3;have y4:2<=k:=y4;have y5:k<=n:=y5;have T':mU n (kas_rev q 0 k):=T.perm (mirror_perm ..);have hs:k<=q.size:=by rw [T.size];exact y5
    refine KasT.way_bind _ (KasT.way_mono (λm' x=>?_) _ (aD7 S hn T' (n-k) k (by omega) (by omega) λi j h1 h2=>?_))
    ·exact⟨T',x.1,by have:=x.2.1;show 1<=m';omega,x.2.2.1⟩
    ·rw [aNe hs,aNe hs,if_pos (by omega),if_pos h2];exact y3 _ _ (by omega) (by omega)
   ·obtain rfl:i=0:=by omega
    obtain rfl:j=1:=by omega
    exact z4
theorem wG (S:pG n lt) (hn:0<n) (T:mU n p) {k:Nat} (hk:k<n) (R:oK lt p k):∀(f l r:Nat),l<=r->r<=k->r-l<=f->(∀i,i<l->lt (vAt p i) (vAt p k)=true)->(∀i,r<=i->i<k->lt (vAt p k) (vAt p i)=true)->
  (kas_place p k f l r).Way lt (·<n) λm=>m<=k/\(∀i,i<m->lt (vAt p i) (vAt p k)=true)/\∀i,m<=i->i<k->lt (vAt p k) (vAt p i)=true
 |0,l,r,h1,h2,h3,a,b=>by
  obtain rfl:l=r:=by omega
  exact⟨h2,a,b⟩
 |f+1,l,r,h1,h2,h3,a,b=>by
  show KasT.Way lt (·<n) (if l≥r then _ else _) _;by_cases e:l≥r
  ·rw [if_pos e];obtain rfl:l=r:=by omega
   exact⟨h2,a,b⟩
  ·rw [if_neg e];refine⟨T.low hn k,T.low hn _,?_⟩;show KasT.Way lt (·<n) (if lt (vAt p k) (vAt p ((l+r) / 2))=true then _ else _) _;by_cases c:lt (vAt p k) (vAt p ((l+r) / 2))=true
   ·rw [if_pos c];refine wG S hn T hk R f l _ (by omega) (by omega) (by omega) a λi g1 g2=>?_;by_cases y:i=(l+r) / 2
    ·subst y;exact c
    ·exact S.trans _ _ _ c (R _ i (by omega) g2)
   ·rw [if_neg c];have c':=(S.tot _ _ (T.low hn k) (T.low hn ((l+r) / 2)) (T.inj hk (by omega) (by omega))).resolve_left c;refine wG S hn T hk R f _ r (by omega) h2 (by omega) (λi g=>?_) b;by_cases y:i=(l+r) / 2
    ·subst y;exact c'
    ·exact S.trans _ _ _ (R i _ (by omega) (by omega)) c'
def aPs {k l:Nat} (hk:k<p.size) (hl:l<=k) (i:Nat):vAt (bubble p k (k-l)) i=if i=l then vAt p k else if l<i/\i<=k then vAt p (i-1)else vAt p i:=by
 rw [jR,getElem?_bubble hk _ (by omega),show k-(k-l)=l by omega];split
 ·rw [jR]
 ·split<;>rw [jR]
theorem aJf (S : pG n lt) (hn : 0 < n) : ∀ (f : Nat) (p : Array Nat) (k : Nat), mU n p → k + f = n → oK lt p k → (kas_bin f p k).Way lt (· < n) fun q => mU n q ∧ oK lt q n
  | 0, p, k, T, h, R => ⟨T, by obtain rfl : k = n := by omega
                               exact R⟩
  | f + 1, p, k, T, h, R => by
    refine KasT.way_bind _ (KasT.way_mono (fun l z => ?_) _ (wG S hn T (k := k) (by omega) R k 0 k (Bb _) (Am _) (by omega) (fun i g => by omega) fun i g1 g2 => by omega))
    obtain ⟨z1, z2, z3⟩ := z
    have hs : k < p.size := by rw [T.size]; omega
    refine aJf S hn f _ (k + 1) (T.perm (bubble_perm ..)) (by omega) fun i j h1 h2 => ?_
    rw [aPs hs z1, aPs hs z1]
    by_cases a1 : i = l
    · subst a1
      rw [if_pos rfl, if_neg (by omega), if_pos ⟨h1, by omega⟩]
      exact z3 (j - 1) (by omega) (by omega)
    · rw [if_neg a1]
      by_cases a2 : l < i ∧ i ≤ k
      · rw [if_pos a2, if_neg (by omega), if_pos ⟨by omega, by omega⟩]
        exact R _ _ (by omega) (by omega)
      · rw [if_neg a2]
        by_cases b1 : j = l
        · rw [if_pos b1]
          exact z2 i (by omega)
        · rw [if_neg b1]
          by_cases b2 : l < j ∧ j ≤ k
          · rw [if_pos b2]
            by_cases e : i = j - 1
            · omega
            · exact R _ _ (by omega) (by omega)
          · rw [if_neg b2]
            exact R _ _ h1 (by omega)
def aM7 (S:pG n lt) (hn:0<n):(kas_sort n).Way lt (·<n) λq=>mU n q/\oK lt q n:=by
 have T:mU n (Tp (Bq n)):=Gk _;refine KasT.way_bind _ (KasT.way_mono (λr z=>?_) _ (aLd S hn T));obtain⟨m,q⟩:=r;obtain⟨z1,z2,z3,z4⟩:=z;have z1:mU n q:=z1;have z2:oK lt q m:=z2;have z3:1<=m:=z3;have z4:m<=n:=z4;show KasT.Way lt (·<n) (if m<n then kas_bin (n-max m 1) q (max m 1)else _) _;by_cases e:m<n
 ·rw [if_pos e,show max m 1=m by omega];exact aJf S hn _ _ _ z1 (by omega) z2
 ·rw [if_neg e];obtain rfl:m=n:=by omega
  exact⟨z1,z2⟩
end PySem.W
namespace PySem
variable {Q:Value->Shared->Prop} {G:Array GenState->Array GenState->Prop} {items:Array Value} {R:Result->Shared->Prop} {P:Nat->Value->Prop} {tk:Nat->Tok} {l:Addr} {fp wr:List Addr}
open Sem (wp)
open PyProof.Rows (listItems_at)
open SeqAt
def aZ4 (A:Around) (s:Shared) (y x:Value) (b:Bool):Prop:=
 ∀(prog:Program) (w:World) (E:Value->Shared->Prop) (Q:Value->Shared->Prop),Q (.bool b) s->wpAny (model prog w) A (richCompare .Lt y x) Q E s
def LtN (n:Nat) (s:Shared) (y x:Value) (b:Bool):Prop:=∀A:Around,A.units<=n->aZ4 A s y x b
def LtN.ints (n:Nat) (s:Shared) (a b:Int) (t u):LtN n s (.int a t) (.int b u) (decide (a<b)):=λA _ prog w E Q h=>Ll h
variable {s:Shared} {a b:Addr} {xs ys:Array Value} {n:Nat}
def kE:List Int->List Int->Bool
 | [],[]=>false
 | [],_::_=>true
 |_::_,[]=>false
 |x::xs,y::ys=>if x=y then kE xs ys else decide (x<y)
theorem vX:∀x,kE x x=false
 | []=>rfl
 |x::xs=>by rw [kE,if_pos rfl];exact vX xs
theorem aFy:∀x y,x≠y->kE x y=true∨kE y x=true
 | [],[],h=>absurd rfl h
 | [],_::_,_=> .inl rfl
 |_::_,[],_=> .inr rfl
 |x::xs,y::ys,h=>by
  unfold kE;by_cases e:x=y
  ·subst e;rw [if_pos rfl,if_pos rfl];exact aFy xs ys λz=>h (by rw [z])
  ·rw [if_neg e,if_neg (Cy e),decide_eq_true_iff,decide_eq_true_iff];omega
theorem uA:∀x y z,kE x y=true->kE y z=true->kE x z=true
 | [],[],_,h,_=>absurd h (by decide)
 | [],_::_,[],_,h=>absurd h (by simp [kE])
 | [],_::_,_::_,_,_=>rfl
 |_::_,[],_,h,_=>absurd h (by simp [kE])
 |_::_,_::_,[],_,h=>absurd h (by simp [kE])
 |x::xs,y::ys,z::zs,h1,h2=>by
  unfold kE at h1 h2⊢;by_cases e1:x=y
  ·subst e1;rw [if_pos rfl]at h1;by_cases e2:x=z
   ·subst e2;rw [if_pos rfl]at h2⊢;exact uA xs ys zs h1 h2
   ·rw [if_neg e2]at h2⊢;exact h2
  ·rw [if_neg e1,decide_eq_true_iff]at h1;by_cases e2:y=z
   ·subst e2;rw [if_neg e1,decide_eq_true_iff];exact h1
   ·rw [if_neg e2,decide_eq_true_iff]at h2;rw [if_neg (by omega),decide_eq_true_iff];omega
def aBq (x y:List Int) (h:kE x y=true):kE y x=false:=by
 cases e:kE y x with
 |false=>rfl
 |true=>
  have:=uA x y x h e;rw [vX]at this;cases this
variable {prog:Program} {w:World}
def LtN.tups {a b:Addr} {x y:List Int} (ha:IsTupleKey (intKind prog w) s.heap x a) (hb:IsTupleKey (intKind prog w) s.heap y b) (hn:n+4<cLine):LtN n s (.ref a) (.ref b) (kE x y):=by
 obtain⟨oa,ia,na,hoa,ca,da,ha⟩:=ha;obtain⟨ob,ib,nb,hob,cb,db,hb⟩:=hb;have Ta:s.TypeIs (.ref a) "tuple":=⟨oa,hoa,ca⟩;have Tb:s.TypeIs (.ref b) "tuple":=⟨ob,hob,cb⟩;intro A hA prog' w' E Q hQ;refine Nn (op:= .Lt) Ta Tb F.slot_tuple_lt (Pd (Ra F.slot_tuple_lt.plain F.entry_tuple_lt (F.slot_tuple_lt.check _ _ _ _ _ _ _ _ Ta (F.args_tuple_lt_2 _ _) ?_))) (by omega);show wpAny _ _ (isInstance (.ref b) (.type "tuple")>>=_) _ _ s;refine Aa (Fh Tb Hk ?_);simp only [Br,Ao,if_false];refine Aa (Gr hoa da ?_);refine Aa (Gr hob db ?_);refine Aa (Cq (Q:=λr s'=>s'=s/\(match r.1 with|some v=>v= .done (.ret (.bool (kE x y)))|none=>kE x y=decide (x.length<y.length))) ?_ (λr s' h=>?_) λ_ _ z=>z)
 ·clear hQ hoa hob da db ca cb Ta Tb;generalize ia.toList=us at ha⊢;generalize ib.toList=vs at hb⊢;induction ha generalizing y vs with
  |nil=>
   rw [List.zip_nil_left,Rr];refine Af ⟨rfl,?_⟩;cases hb<;>rfl
  |@cons i u x us h1 t1 ih=>
   cases hb with
   |nil=>
    rw [List.zip_nil_right,Rr];exact Af ⟨rfl,rfl⟩
   |@cons j v y vs h2 t2=>
    obtain⟨tu,rfl⟩:=Ds h1;obtain⟨tv,rfl⟩:=Ds h2;rw [Gh,Lu];refine Aa (Aa (Mu ?_));by_cases ij:i=j
    ·subst ij;rw [beq_self_eq_true];simp only [Br,Ao,if_false];refine Af ?_;dsimp only;have:=ih vs t2;have e1:kE (i::x) (i::y)=kE x y:=by rw [kE,if_pos rfl]
     have e2:decide ((i::x).length<(i::y).length)=decide (x.length<y.length):=by simp
     rw [e1,e2];exact this
    ·rw [beq_eq_false_iff_ne.mpr ij];have e1:kE (i::x) (j::y)=decide (i<j):=by rw [kE,if_neg ij]
     rw [e1];simp only [Gw,if_true];refine Aa (Iy (Aa (LtN.ints (n+3) s i j tu tv A.in1 (by show A.units+1<=n+3;omega) prog' w' _ _ ?_)));exact Aa (Af (Af (Af ⟨rfl,rfl⟩)))
 ·obtain⟨rfl,h⟩:=h;obtain⟨r,u⟩:=r;cases r with
  |some v=>
   have h:v=_:=h;subst h;exact Af ⟨(λz=>nomatch z),hQ⟩
  |none=>
   have h:kE x y=_:=h;rw [ha.length,hb.length,As,As]at h;refine Af ⟨(λz=>nomatch z),?_⟩;rw [h]at hQ;exact hQ
section
variable {prog:Program} {w:World} {K:Type} [DecidableEq K] {knd:HeapKind prog w K} {A:Around}
structure Met (val:Nat->K) (adr:Nat->Addr) (i:Nat) (xs:List (K×Addr)):Prop where
 from':∀x∈xs,∃j,j<i/\x=(val j,adr j)
 all:∀j,j<i->∃x∈xs,x.1=val j
 len:xs.length<=i
def nM {I:Addr} {n:Nat} {St:Nat->Shared->Prop}
  (D:tW knd) (W:WalksS prog w A.in1 I fp wr G n P St) (S:Addr) (hSf:S∉fp) (hu:knd.room A.in1) (l:Bool)
  (val:Nat->K) (adr:Nat->Addr) (hval:∀i v,P i v->v= .ref (adr i)) (hn:∀i xs,i<n->Met val adr i xs->(xs.map (·.1)).Nodup->xs.length<18) (hnt:∀i s,St i s->∀b∈wr,∀o,s.heap.get? b=some o->o.cls≠ .type "tuple"):
  ∀(k i:Nat) (s:Shared) (xs:List (K×Addr)),n-i=k->i<=n->St i s->(∀j,j<n->knd.is s.heap (val j) (adr j))->
   lF knd s S l xs->Met val adr i xs->
   (∀s' xs',Moved (S::wr) G s s'->lF knd s' S l xs'->Met val adr n xs'->(∀b o,o.cls= .type "tuple"->s.heap.get? b=some o->s'.heap.get? b=some o)->R (.ok (.ret .none)) s')->
   codeAny (model prog w) A (.builtin "set.update.loop" ⟨[.ref S,.ref I],[]⟩) R s:=by
 have hSw:S∉wr:=λh=>hSf (W.sub _ h);have hsub:∀b∈wr,b∈S::wr:=λb hb=>Ad _ hb;intro k;induction k with
 |zero=>
  intro i s xs hk hi hst hkey hS hm0 hR;have hin:i=n:=by omega
  subst hin;refine Ci Dx ?_;rw [Bt Bs _];show wpAny _ A.in1 (pyNext (.ref I)>>=_) _ _ s;refine Aa (W.done s _ _ hst λs' hm=>?_);have ht:∀b o,o.cls= .type "tuple"->s.heap.get? b=some o->s'.heap.get? b=some o:=λb o hc e=>hm.heap b o (λhb=>hnt _ _ hst b hb o e hc) e;show wpAny _ A.in1 (ret Ce) _ _ s';exact Af (hR s' xs (hm.mono hsub) (hS.at D (λo e=>hm.heap S o hSw e) ht) hm0 ht)
 |succ k ih=>
  intro i s xs hk hi hst hkey hS hm0 hR;have hlt:i<n:=by omega
  refine Ci Dx ?_;rw [Bt Bs _];show wpAny _ A.in1 (pyNext (.ref I)>>=_) _ _ s;refine Aa (W.item i s _ _ hlt hst λv s' hP hst' hm=>?_);obtain rfl:=hval i v hP;have ht:∀b o,o.cls= .type "tuple"->s.heap.get? b=some o->s'.heap.get? b=some o:=λb o hc e=>hm.heap b o (λhb=>hnt _ _ hst b hb o e hc) e;have hS':=hS.at D (λo e=>hm.heap S o hSw e) ht;have hk':∀j,j<n->knd.is s'.heap (val j) (adr j):=λj hj=>D.mono (hkey j hj) ht;show wpAny _ A.in1 (holding [An (adr i)] (setAdd S (.ref (adr i)))>>=_) _ _ s';refine Aa (By ?_);unfold setAdd;refine By ?_;refine Aa (knd.pyHash (k:=val i) hu (hk' i hlt) ?_);have hS2:lF knd {s' with toks:=s'.toks+knd.draws (val i)} S l xs:=hS'.at D (λ_ e=>e) λ_ _ _ e=>e;refine oF D hS2 (hn i xs hlt hm0 (by obtain⟨_,_,_,_,z,_⟩:=hS2;exact z.nd)) hu (hk' i hlt) (λhold=>?_) (λhnew h' xs' hsb pm S3=>?_)
  ·refine Af ⟨Do Bs _,ih (i+1) _ xs (by omega) hlt (W.frame _ s' _ _ hst' (Gb _ _) λb hb o e=>e) hk' hS2 ⟨λx hx=>?_,λj hj=>?_,by have:=hm0.len;omega⟩ λs'' xs'' hm'' S'' M'' ht''=>?_⟩
   ·obtain⟨j,h1,h2⟩:=hm0.from' x hx;exact⟨j,by omega,h2⟩
   ·by_cases e:j=i
    ·subst e;exact hold
    ·exact hm0.all j (by omega)
   ·exact hR s'' xs'' (Lj W.gtrans ((hm.mono hsub).then_heap (Gb _ _) λb o hb e=>e) hm'') S'' M'' λb o hc e=>ht'' b o hc (ht b o hc e)
  ·have hSt:∀b o,o.cls= .type "tuple"->s'.heap.get? b=some o->h'.get? b=some o:=λb o hc e=>by
    have ne:b≠S:=by
     rintro rfl;obtain⟨o2,_,_,_,z,_⟩:=hS';rw [z.ho]at e;cases e;rw [z.hex.1]at hc;exact absurd hc (by decide)
    rw [hsb.2 b ne];exact e
   refine Af ⟨Do Bs _,ih (i+1) _ xs' (by omega) hlt (W.frame _ s' _ _ hst' (Gb _ _) λb hb o e=>?_) (λj hj=>D.mono (hk' j hj) hSt) S3 ⟨λx hx=>?_,λj hj=>?_,by have:=hm0.len;rw [pm.length_eq,Ah];omega⟩ λs'' xs'' hm'' S'' M'' ht''=>?_⟩
   ·rw [hsb.2 b (λh:b=S=>hSf (by rw [<-h];exact hb))];exact e
   ·rcases List.mem_cons.mp (pm.mem_iff.mp hx)with e|m
    ·exact⟨i,by omega,e⟩
    ·obtain⟨j,h1,h2⟩:=hm0.from' x m;exact⟨j,by omega,h2⟩
   ·by_cases e:j=i
    ·subst e;exact⟨_,pm.mem_iff.mpr Ae,rfl⟩
    ·obtain⟨x,hx,ex⟩:=hm0.all j (by omega);exact⟨x,pm.mem_iff.mpr (Ad _ hx),ex⟩
   ·refine hR s'' xs'' (Lj W.gtrans ((hm.mono hsub).then_heap (Gb _ _) λb o hb e=>?_) hm'') S'' M'' λb o hc e=>ht'' b o hc (hSt b o hc (ht b o hc e));rw [hsb.2 b (λh:b=S=>hb (by rw [h];exact Ae))];exact e
end
variable {A:Around} {E:Value->Shared->Prop}
def aBi (a:Value) {Q₁:Value->Shared->Prop}
  (h:Q₁ (.ref s.heap.objs.size) {s with heap:=s.heap.push {cls:= .type "set",dict:=none,data:= .set #[] 0 (.fresh 0 0 (!w.params.followText "set-order"))}}):
  codeAny (model prog w) A (.call (.builtin "set.__new__") ⟨[.type "set",a],[]⟩) (wants Q₁ E) s:=by
 refine Vr ?_;show wpAny _ A.in1 (do checkBuiltinCall "set.__new__" ⟨[.type "set",a],[]⟩;again (.builtin "set.__new__" ⟨[.type "set",a],[]⟩)) _ _ s;refine Aa (Np (F.newCall_set_1 a) (Af ⟨Do Tx _,Ci F.entry_set_new ?_⟩));rw [Bt Tx _];unfold Builtin.«set.__new__» Qx;have hsub:=sub_set_self;obtain⟨hp,g,d,tk,os⟩:=s;dsimp only
 wp_walk
 refine Hr (Af ?_);dsimp only;simp only [newObj];refine Aa (wpAny_alloc (Af ?_));exact Af h
section
variable {prog:Program} {w:World} {K:Type} [DecidableEq K] {knd:HeapKind prog w K} {A:Around} {E:Value->Shared->Prop} {s:Shared}
def lF.fresh (s:Shared) {a:Addr} (l:Bool) (h:s.heap.get? a=some {cls:= .type "set",dict:=none,data:= .set #[] 0 (.fresh 0 0 l)}):lF knd s a l []:=
 ⟨_, #[],0,_,⟨h,⟨rfl,rfl,rfl⟩,rfl,rfl,⟨rfl,λi k h1 h2=>absurd h2 (Dl _),λj hj=>(nomatch hj),Bb _,SetTable.aWh⟩,rfl,λx hx=>(nomatch hx),Hx,λi j x h1 h2=>(nomatch h2)⟩,.inl ⟨rfl,Bb _⟩,rfl,rfl⟩
def aUj (prog:Program) (w:World) (n:Nat) (P:Nat->Value->Prop) (u:Nat) (s:Shared) (S:Addr) (led:Bool) (Z:Shared->Prop):Prop:=
 ∀{A:Around} {R:Result->Shared->Prop} {I:Addr} {fp wr:List Addr} {G:Array GenState->Array GenState->Prop} {St:Nat->Shared->Prop} (s1:Shared),WalksS prog w A.in1 I fp wr G n P St->S∉fp->A.in1.units<=u+8->
  (∀i s,St i s->∀b∈wr,∀o,s.heap.get? b=some o->o.cls≠ .type "tuple")->St 0 s1->(∀b o,s.heap.get? b=some o->s1.heap.get? b=some o)->s1.heap.get? S=some {cls:= .type "set",dict:=none,data:= .set #[] 0 (.fresh 0 0 led)}->
  (∀s',Moved (S::wr) G s1 s'->Z s'->R (.ok (.ret .none)) s')->codeAny (model prog w) A (.builtin "set.update.loop" ⟨[.ref S,.ref I],[]⟩) R s1
def vO (Z:Shared->Prop) (hh:A.handled=none) (hl:s.heap.IsList l items)
  (L:aUj prog w items.size (λi v=>items[i]? =some v) A.units s s.heap.objs.size (!w.params.followText "set-order") Z)
  (h:∀(h':Heap) (tk:Nat),Z {s with heap:=h',toks:=tk}->(∀b o,b<s.heap.objs.size->s.heap.get? b=some o->h'.get? b=some o)->Q (.ref s.heap.objs.size) {s with heap:=h',toks:=tk}):
  wpAny (model prog w) A (call (.type "set") [.ref l]) Q E s:=by
 obtain⟨c,tl,hmro⟩:=F.called_set.mro;have hmade:=F.called_set.made;have hsub:=F.called_set.sub;refine Pd (Vr ?_);show wpAny _ _ (callAny (.type "set") _) _ _ _;refine Af ⟨Code.quiet_builtin _ (by decide+kernel),Ci F.entry_type_call ?_⟩;rw [Around.under_plain (weight_type_call_type "set" [.ref l] []) rfl];have h1:=F.called_set.notType;have h2:=F.called_set.canCreate;have hct:=F.typeCall_set_1 (.ref l)
 repeat (any_goals (first|assumption|wp_step))
 generalize hled:(!w.params.followText "set-order")=led at L;refine Hl (aBi (.ref l) (E:=E) (Q₁:=λobj s₁=>obj= .ref s.heap.objs.size/\s₁={s with heap:=s.heap.push {cls:= .type "set",dict:=none,data:= .set #[] 0 (.fresh 0 0 led)}}) ⟨rfl,by rw [hled]⟩) λr s₁ hr=>?_;cases r with
 |error e=>exact hr
 |ok fl=>
  cases fl with
  |ret obj=>
   obtain⟨rfl,rfl⟩:=hr;have hS:(s.heap.push {cls:= .type "set",dict:=none,data:= .set #[] 0 (.fresh 0 0 led)}).get? s.heap.objs.size=some {cls:= .type "set",dict:=none,data:= .set #[] 0 (.fresh 0 0 led)}:=Ar _ rfl;have hT:Jt {s with heap:=s.heap.push {cls:= .type "set",dict:=none,data:= .set #[] 0 (.fresh 0 0 led)}} (.ref s.heap.objs.size) "set":=⟨_,hS,rfl⟩;have hli:=F.called_set.init.lookup;have hbi:=F.called_set.init.bind (.ref s.heap.objs.size)
   repeat (any_goals (first|assumption|wp_step))
   refine Hl (Ra (R:=wants (λr s₂=>r= .none/\∃h' tk,s₂={s with heap:=h',toks:=tk}/\Z {s with heap:=h',toks:=tk}/\
     (∀b o,b<s.heap.objs.size->s.heap.get? b=some o->h'.get? b=some o)) E) F.called_set.init.plain F.entry_set_init (check_set_init_1 hT ?_)) λr₂ s₂ hr₂=>?_
   ·obtain⟨ol,hol,hcl,nl,hdl⟩:=hl;obtain⟨ocls,odict,odata,oslots⟩:=ol;simp only at hcl hdl;subst hcl;subst hdl;have hol':(s.heap.push {cls:= .type "set",dict:=none,data:= .set #[] 0 (.fresh 0 0 led)}).get? l=some {cls:= .type "list",dict:=odict,data:= .seq items nl,slots:=oslots}:=Ai _ hol;have hsls:=F.sub_list_set;have hslf:=F.sub_list_frozenset;have hne:(Ia "list"==Ia "dict")=false:=by decide
    have hl1:(s.heap.push {cls:= .type "set",dict:=none,data:= .set #[] 0 (.fresh 0 0 led)}).IsList l items:=⟨_,hol',rfl,nl,rfl⟩;unfold Builtin.«set.__init__» noKeywords Qu;generalize hPI:pyIter=PI
    wp_walk
    subst hPI;refine He hl1 ?_;refine Aa (Oi ?_);have hlS:l<s.heap.objs.size:=Ap hol;have hh3:A.in1.in1.in1.handled=none:=by simp [hh]
    have hneI:l≠(s.heap.push {cls:= .type "set",dict:=none,data:= .set #[] 0 (.fresh 0 0 led)}).objs.size:=by
     rw [Dk];exact Ax (Ei hlS)
    have hSf:s.heap.objs.size∉[(s.heap.push {cls:= .type "set",dict:=none,data:= .set #[] 0 (.fresh 0 0 led)}).objs.size,l]:=by
     rw [Dk];simp only [Ca,Fc,Bm,or_false,not_or];exact⟨Ax (Ed _),Ha hlS⟩
    have keep2:∀b o,s.heap.get? b=some o->((s.heap.push {cls:= .type "set",dict:=none,data:= .set #[] 0 (.fresh 0 0 led)}).push {cls:= .type "list_iterator",data:= .fields #[.ref l,.int 0 0]}).get? b=some o:=λb o e=>Ai _ (Ai _ e);refine L _ ((Kg hh3 _ l hneI items).toS) hSf (by simp [Around.in1]) ?hnt ⟨⟨_,Ar _ rfl,rfl,rfl⟩,(hl1.push _)⟩ keep2 (Ai _ hS) ?hR
    case hnt=>
     rintro i s2 ⟨⟨o2,g1,g2,_⟩,_⟩ b hb o e hc;have hb:=List.mem_singleton.mp hb;subst hb;rw [g1]at e;cases e;rw [g2]at hc;exact absurd hc (by decide)
    case hR=>
     intro s' hm hS';obtain⟨h',g',d',tk',os'⟩:=s';have eg:g'=s.gens:=hm.gens;have ed:d'=s.drawn:=hm.drawn;have eo:os'=s.os:=hm.os;subst eg;subst ed;subst eo;show wpAny _ _ _ _ _ _;refine Af ?_;show wpAny _ _ (ret Ce) _ _ _;refine Af ⟨rfl,h',tk',rfl,hS',λb o hb e=>?_⟩;have hb1:b≠s.heap.objs.size:=Ax hb;have hb2:b≠(s.heap.push {cls:= .type "set",dict:=none,data:= .set #[] 0 (.fresh 0 0 led)}).objs.size:=by
      rw [Dk];exact Ax (Ei hb)
     exact hm.heap b o (by simp only [Ca,Fc,Bm,or_false,not_or];exact⟨hb1,hb2⟩) (keep2 b o e)
   ·cases r₂ with
    |error e=>exact hr₂
    |ok fl₂=>
     cases fl₂ with
     |ret r=>
      obtain⟨rfl,h',tk,rfl,hS',hk'⟩:=hr₂
      repeat (any_goals (first|assumption|wp_step))
      exact h _ _ hS' hk'
     |_=>exact hr₂.elim
  |_=>exact hr.elim
def aAv {val:Nat->K} {adr:Nat->Addr} (D:tW knd) (hu:∀A':Around,A'.units<=A.units+8->knd.room A')
  (hh:A.handled=none) (hl:s.heap.IsList l items) (hi:∀(i:Nat) (v:Value),items[i]? =some v->v=An (adr i)) (hk:∀j,j<items.size->knd.is s.heap (val j) (adr j)) (hb:∀i xs,i<items.size->Met val adr i xs->(xs.map (·.1)).Nodup->xs.length<18)
  (h:∀(h':Heap) (tk:Nat) (xs:List (K×Addr)),lF knd {s with heap:=h',toks:=tk} s.heap.objs.size (!w.params.followText "set-order") xs->Met val adr items.size xs->
   (∀b o,b<s.heap.objs.size->s.heap.get? b=some o->h'.get? b=some o)->Q (.ref s.heap.objs.size) {s with heap:=h',toks:=tk}):
  wpAny (model prog w) A (call (.type "set") [.ref l]) Q E s:=
 vO (λs'=>∃xs,lF knd s' s.heap.objs.size (!w.params.followText "set-order") xs/\Met val adr items.size xs) hh hl
  (λs1 W hSf hA hnt st kp hS hR=>nM D W s.heap.objs.size hSf (hu _ hA) _ val adr hi hb hnt (items.size-0) 0 s1 [] (by omega) (Bb _) st (λj hj=>D.mono (hk j hj) λb o _ e=>kp b o e) (lF.fresh _ _ hS) ⟨λx hx=>(nomatch hx),λj hj=>absurd hj (Dl _),Bb _⟩ λs' xs' hm S M _=>hR s' hm ⟨xs',S,M⟩)
  λh' tk ⟨xs,S,M⟩ kp=>h h' tk xs S M kp
end
open PyProof.Rows PySem.W
structure aFr {prog:Program} {w:World} {α:Type} [DecidableEq α] (knd:HeapKind prog w α) (ok:α->Prop) (lt:α->α->Bool):Prop where
 set:tW knd
 tot:∀x y,x≠y->lt x y=true∨lt y x=true
 asym:∀x y,lt x y=true->lt y x=false
 trans:∀x y z,lt x y=true->lt y z=true->lt x z=true
 first:∀{h:Heap} {k:α} {a:Addr},ok k->knd.is h k a->∃o items n i tk,h.get? a=some o/\o.cls= .type "tuple"/\o.data= .seq items n/\items[0]? =some (Cz i tk)
 cmp:∀{A:Around} {E:Value->Shared->Prop} {b:Bool} {s:Shared} {x y:α} {p q:Addr} {Q:Bool->Shared->Prop},A.units+10<cLine->knd.is s.heap x p->knd.is s.heap y q->Q (lt x y) s->wpAny (model prog w) A (keyLt' (tuples' b) (.ref p) (.ref q)) Q E s
section
variable {prog:Program} {w:World} {A:Around} {E:Value->Shared->Prop} {s:Shared} {α:Type} [DecidableEq α] [Inhabited α] {knd:HeapKind prog w α} {ok:α->Prop} {lt:α->α->Bool}
def aAa (knd:HeapKind prog w α) (ok:α->Prop) (h:Heap) (xs:List (α×Addr)):Prop:=∀x∈xs,ok x.1/\knd.is h x.1 x.2
def aAa.mono (O:aFr knd ok lt) {h h':Heap} {xs:List (α×Addr)} (T:aAa knd ok h xs) (hs:∀b o,o.cls= .type "tuple"->h.get? b=some o->h'.get? b=some o):aAa knd ok h' xs:=λx hx=>⟨(T x hx).1,O.set.mono (T x hx).2 hs⟩
def aAa.kat (O:aFr knd ok lt) {h:Heap}:∀{xs:List (α×Addr)},aAa knd ok h xs->∃fs:List Value,fs.length=xs.length/\(∀v∈fs,∃i tk,v=Cz i tk)/\KatTups h (xs.map λx=>An x.2) fs
 | [],_=>⟨[],rfl,λv hv=>(nomatch hv),KatTups.nil⟩
 |x::xs,T=>by
  obtain⟨fs,f1,f2,f3⟩:=aAa.kat O (xs:=xs) λy hy=>T y (Ad _ hy);obtain⟨o,items,n,i,tk,ho,hc,hd,hf⟩:=O.first (T x Ae).1 (T x Ae).2;refine⟨.int i tk::fs,by rw [Ah,Ah,f1],λv hv=>?_,KatTups.cons ho hc hd hf f3⟩;rcases List.mem_cons.mp hv with rfl|hv
  ·exact⟨_,_,rfl⟩
  ·exact f2 v hv
def aCj {α:Type} {xs:List α} {p:List Nat} (hp:p.Perm (Bq xs.length)):(p.filterMap λi:Nat=>xs[i]?).Perm xs:=by
 have:=hp.filterMap λi:Nat=>xs[i]?;rw [qL]at this;exact this
def qW (O:aFr knd ok lt) (hu:A.units+20<cLine) {a:Addr} {xs:List (α×Addr)} {n:Nat} {P:Fin->Shared->Prop} (ho:s.heap.get? a=some (seqObj "list" (xs.map λx=>An x.2).toArray n))
  (T:aAa knd ok s.heap xs) (nd:(xs.map (·.1)).Nodup) (h64:xs.length<64)
  (h:∀ys:List (α×Addr),ys.Perm xs->ys.Pairwise (λx y=>lt x.1 y.1=true)->P (.done (.ret .none)) {s with heap:=sortedHeap s.heap a (xs.map λx=>An x.2) (ys.map λx=>An x.2).toArray}):
  wpAny (model prog w) A (Builtin.«list.sort» ⟨[.ref a],[]⟩) P E s:=by
 rw [list_sort_plain];have ha:a<s.heap.objs.size:=Ap ho;generalize hvs:(xs.map λx=>An x.2)=vs at ho h;have vl:vs.length=xs.length:=by rw [<-hvs,Ab]
 refine Aa (listItems_at ho rfl ?_);refine Aa (Pp ho rfl ?_ (by rw [Al,Cr];omega) (Bb _));obtain⟨e1,ho1⟩:∃e1,(s.heap.update a (Ea λ_=> #[])).get? a=some (seqObj "list" #[] e1):=⟨_,get?_update_seq ho (λ_=> #[])⟩;refine Aa (Rh ho1 rfl ?_);refine Aa (wpAny_newTuple ?_ (by show vs.length<=_;rw [Cr];omega));refine Aa (Lf ?_ (Bb _));refine By ?_;have kp:∀b o,b≠a->s.heap.get? b=some o->(((s.heap.update a (Ea λ_=> #[])).push (seqObj "tuple" vs.toArray 0)).push (seqObj "list" #[] 0)).get? b=some o:=λb o hb e=>
  Ai _ (Ai _ ((Da _ _ (Cy hb)).trans e))
 have ho6:(((s.heap.update a (Ea λ_=> #[])).push (seqObj "tuple" vs.toArray 0)).push (seqObj "list" #[] 0)).get? a=some (seqObj "list" #[] e1):=Ai _ (Ai _ ho1);show wpAny (model prog w) A _ P E {s with heap:=((s.heap.update a (Ea λ_=> #[])).push (seqObj "tuple" vs.toArray 0)).push (seqObj "list" #[] 0)};dsimp only;generalize hH:((s.heap.update a (Ea λ_=> #[])).push (seqObj "tuple" vs.toArray 0)).push (seqObj "list" #[] 0)=H at ho6 kp;have T6:aAa knd ok H xs:=T.mono O λb o hc e=>kp b o (λz=>by subst z;rw [ho]at e;cases e;exact absurd (show Ia "list"=Ia "tuple" from hc) (by decide)) e;have fin:∀out:Array Value,sortedHeap s.heap a vs out=H.update a (Ea λ_=>out):=λout=>by rw [<-hH];rfl
 by_cases h2:vs.toArray.size<2
 ·rw [if_pos h2,if_pos h2];refine Aa (Af ?_);rw [StateT.run_pure];refine Aa (Af ?_);dsimp only;refine Aa (Rh ho6 rfl ?_);have ev:(pairsOf vs).map (·.2)=vs.toArray:=by
   apply Array.toList_inj.mp;rw [Array.toList_map,pairsOf_toList];exact List.map_snd_zip (Am _)
  have hz:((pairsOf vs).map (·.2)).size<=sizeLine+1:=by rw [ev,Al,Cr];omega
  refine Aa (Pp ho6 rfl ?_ (Bb _) hz);simp only [bne_self_eq_false,Ao,if_false];refine Af ?_;have q:=h xs (Gk _) (by
   rw [Al,vl]at h2;match xs,h2 with
   | [],_=>exact .nil
   | [x],_=>exact Nh _ _)
  rw [fin,hvs]at q;have q':P (.done (.ret .none)) {s with heap:=H.update a (Ea λ_=>(pairsOf vs).map (·.2))}:=by rw [ev];exact q
  exact q'
 ·rw [if_neg h2,if_neg h2];rw [Al]at h2;obtain⟨fs,f1,f2,f3⟩:=aAa.kat O T6;rw [hvs]at f3;refine Aa (kat_kind (T:=Ia "int") f3 (by omega) (λv hv=>?_) rfl ?_)
  ·obtain⟨i,tk,rfl⟩:=f2 v hv;exact Looks.of_pure rfl
  ·have keyd:∀i,i<xs.length->xs[i]? =some (xs.getD i (default,0))/\vs.getD i Ce= .ref (xs.getD i (default,0)).2:=λi hi=>by
    rw [<-hvs];simp [Ls,hi]
   have S:pG xs.length λi j=>lt (xs.getD i (default,0)).1 (xs.getD j (default,0)).1:=by
    refine⟨λi j hi hj ne=>O.tot _ _ λz=>ne ?_,λi j=>O.asym _ _,λi j k=>O.trans _ _ _⟩;have li:i<(xs.map (·.1)).length:=by rw [Ab];exact hi
    have lj:j<(xs.map (·.1)).length:=by rw [Ab];exact hj
    refine(Lb (h₀:=li) (h₁:=lj) nd).mp ?_;simpa [Ls,hi,hj]using z
   have wy:=aM7 S (by omega);rw [<-vl]at wy;refine Aa (Cq (kat_run (ks:=vs) (vs:=vs) (Q:=λst' s'=>s'={s with heap:=H}/\∃p:Array Nat,p.size=vs.length/\arrOf st'=p.map (kas_item (vs.toArray.zip vs.toArray))/\failedOf st'=none/\mU vs.length p/\oK (λi j=>lt (xs.getD i (default,0)).1 (xs.getD j (default,0)).1) p vs.length)
    (G:=λp s'=>s'={s with heap:=H}/\mU vs.length p/\oK (λi j=>lt (xs.getD i (default,0)).1 (xs.getD j (default,0)).1) p vs.length) rfl (by omega) (by omega) (λp st' s' a1 a2 a3 a4=>⟨a4.1,p,a1,a2,a3,a4.2⟩)
    (KasT.way_wp (λi j C hi hj hC=>?_) (λp hp=>⟨rfl,hp⟩) _ wy)) ?_ λ_ _ e=>e)
   ·have hi:i<vs.length:=hi;have hj:j<vs.length:=hj;rw [vl]at hi hj;show wpAny _ _ (keyLt' _ (vs.getD i Ce) (vs.getD j Ce)) _ _ _;obtain⟨a1,a2⟩:=keyd i hi;obtain⟨b1,b2⟩:=keyd j hj;rw [a2,b2];exact O.cmp (by omega) (T6 _ (Bn a1)).2 (T6 _ (Bn b1)).2 hC
   ·rintro⟨⟨⟩,st'⟩ s' ⟨rfl,p,hp,har,hf,hT,hR⟩;dsimp only;have hout:=kat_snds rfl har;have pm:p.toList.Perm (Bq xs.length):=by rw [<-vl];exact hT
    have ey:(p.toList.map λi=>vs.getD i Ce)=(p.toList.filterMap λi:Nat=>xs[i]?).map λx=>An x.2:=by
     rw [Pw];have:∀l:List Nat,(∀i∈l,i<xs.length)->(l.map λi=>vs.getD i Ce)=l.filterMap λi:Nat=>(xs[i]?).map λx=>An x.2:=by
      intro l;induction l with
      |nil=>intro _;rfl
      |cons i l ih=>
       intro hl;obtain⟨a1,a2⟩:=keyd i (hl i Ae);rw [Aw,Gc,a1,ih λj hj=>hl j (Ad _ hj),a2];rfl
     exact this _ λi hi=>List.mem_range.mp (pm.mem_iff.mp hi)
    have hsz:(Tp (p.toList.map λi=>vs.getD i Ce)).size<=sizeLine+1:=by rw [Al,Ab,As,hp,Cr];omega
    refine Aa (Rh ho6 rfl ?_);rw [hout];refine Aa (Pp ho6 rfl ?_ (Bb _) hsz);rw [hf];simp only [bne_self_eq_false,Ao,if_false];refine Af ?_;have q:=h (p.toList.filterMap λi:Nat=>xs[i]?) (aCj pm) (by
     rw [Mp];intro i j hi hj hij;have pl:p.toList.length=xs.length:=by rw [pm.length_eq,Df]
     have fl:=(aCj pm).length_eq;have gt:∀r,(hr:r<(p.toList.filterMap λi:Nat=>xs[i]?).length)->(p.toList.filterMap λi:Nat=>xs[i]?)[r]=xs.getD (vAt p r) (default,0):=λr hr=>by
      have hr':r<p.toList.length:=by omega
      have e1:=filterMap_get (f:=λi:Nat=>xs[i]?) (l:=p.toList) (λi hi=>⟨_,Ak (List.mem_range.mp (pm.mem_iff.mp hi))⟩) r;rw [Ak hr,Ak hr']at e1;have e2:vAt p r=p.toList[r]:=by rw [jR, <-Bj,Ak hr'];rfl
      rw [e2];have lt:p.toList[r]<xs.length:=List.mem_range.mp (pm.mem_iff.mp (Eb hr'));have e3:(some p.toList[r]).bind (λi:Nat=>xs[i]?)=some (xs.getD p.toList[r] (default,0)):=(keyd _ lt).1;rw [e3]at e1;exact Bl e1
     rw [gt i hi,gt j hj];exact hR i j hij (by omega))
    rw [fin, <-ey]at q;exact q
def aHw (O:aFr knd ok lt) (hu:A.units+30<cLine) {S:Addr} {xs:List (α×Addr)} (hh:A.handled=none) (I:lF knd s S (!w.params.followText "set-order") xs) (ne:∀x∈xs,ok x.1) (h64:xs.length<64)
  (h:∀(h':Heap) (tk:Nat) (l:Addr) (e:Nat) (ys:List (α×Addr)),ys.Perm xs->ys.Pairwise (λx y=>lt x.1 y.1=true)->s.heap.objs.size<=l->h'.get? l=some (seqObj "list" (ys.map λx=>An x.2).toArray e)->
   (∀b o,s.heap.get? b=some o->h'.get? b=some o)->Q (.ref l) {s with heap:=h',toks:=tk}):
  wpAny (model prog w) A (call (.builtin "sorted") [.ref S]) Q E s:=by
 obtain⟨o,es,ep,t,I,sm,pl,ld⟩:=I;refine Hu Ri Qn Qo (Qq _) ?_;unfold Builtin.«sorted»;refine Aa (m:=checkCount "sorted" 1 1 _) (Af ?_);have esz:es.size<64:=by rw [I.len];exact h64
 refine Aa (mY (by simpa using hh) I.ho I.hex I.hd I.fits I.good.rise pl ld (by rw [Cr];omega) λh1 tk1 s1 k1=>?_);have op:=jZ w S es ep;have eo:es.toList.map (·.2)=xs.map λx=>An x.2:=by rw [I.he,Bk];rfl
 rw [eo]at op;obtain⟨zs,pz,ez⟩:∃zs:List (α×Addr),zs.Perm xs/\gM w S es ep=zs.map λx=>An x.2:=by
  have:∀{l:List Value} {xs:List (α×Addr)},l.Perm (xs.map λx=>An x.2)->∃zs:List (α×Addr),zs.Perm xs/\l=zs.map λx=>An x.2:=λ{l xs} hp=>by
   generalize hm:(xs.map λx=>An x.2)=m at hp;induction hp generalizing xs with
   |nil=>exact⟨xs,Gk _,hm.symm⟩
   |cons a p ih=>
    match xs,hm with
    |x::xs,hm=>
     obtain⟨e1,e2⟩:=Bp hm;obtain⟨zs,z1,z2⟩:=ih e2;exact⟨x::zs,z1.cons x,by rw [z2, <-e1];rfl⟩
   |swap a b l=>
    match xs,hm with
    |x::y::xs,hm=>
     obtain⟨e1,e2⟩:=Bp hm;obtain⟨e2,e3⟩:=Bp e2;exact⟨y::x::xs,Kv _ _ _,by rw [<-e1, <-e2, <-e3];rfl⟩
   |trans p1 p2 ih1 ih2=>
    obtain⟨zs,z1,z2⟩:=ih2 hm;obtain⟨us,u1,u2⟩:=ih1 z2.symm;exact⟨us,u1.trans z1,u2⟩
  exact this op
 rw [ez];have zl:zs.length=xs.length:=pz.length_eq;refine Aa (Lf ?_ (by rw [Ab,Cr];omega));have hoL:(h1.push (seqObj "list" (zs.map λx=>An x.2).toArray 0)).get? h1.objs.size=some (seqObj "list" (zs.map λx=>An x.2).toArray 0):=Ar _ rfl;have T1:aAa knd ok (h1.push (seqObj "list" (zs.map λx=>An x.2).toArray 0)) zs:=λx hx=>⟨ne x (pz.mem_iff.mp hx),O.set.mono (I.keys x (pz.mem_iff.mp hx)) λb o _ e=>Ai _ (k1 b o e)⟩;refine Aa (By (Dg slot_list_sort ⟨_,hoL,rfl⟩ entry_list_sort (qW O (by first|omega|(show A.units+1+20<cLine;omega)|(show A.units+2+20<cLine;omega)|(show A.units+3+20<cLine;omega)) hoL T1 (by rw [(pz.map (·.1)).nodup_iff];exact I.nd) (by omega) λys py hy=>⟨_,rfl,?_⟩) (Oo _)));refine Af ⟨_,rfl,?_⟩;obtain⟨e,he⟩:=Pk (out:=(ys.map λx=>An x.2).toArray) hoL;refine h _ tk1 _ e ys (py.trans pz) hy (Eh s1) he λb o q=>?_;have hb:b<h1.objs.size:=Ap (k1 b o q);rw [Ol (Ax hb) (by rw [Dk];exact Ei hb)];exact Ai _ (k1 b o q)
end
def mO (x y:Int×List Int):Bool:=if x.1=y.1 then kE x.2 y.2 else decide (x.1<y.1)
def aJy (hv:∀k v,(intKind prog w).is k v=true->∃i tk,v=Cz i tk):aFr (dZ (intKind prog w)) (λ_=>True) mO where
 set:=aNa hv
 tot:=λx y ne=>by
  unfold mO;by_cases e:x.1=y.1
  ·rw [if_pos e,if_pos e.symm];exact aFy _ _ λz=>ne (Pt e z)
  ·rw [if_neg e,if_neg (Cy e),decide_eq_true_iff,decide_eq_true_iff];omega
 asym:=λx y h=>by
  unfold mO at h⊢;by_cases e:x.1=y.1
  ·rw [if_pos e]at h;rw [if_pos e.symm];exact aBq _ _ h
  ·rw [if_neg e,decide_eq_true_iff]at h;rw [if_neg (Cy e),decide_eq_false_iff_not];omega
 trans:=λx y z h1 h2=>by
  unfold mO at h1 h2⊢;by_cases e1:x.1=y.1
  ·rw [if_pos e1]at h1;by_cases e2:y.1=z.1
   ·rw [if_pos e2]at h2;rw [if_pos (e1.trans e2)];exact uA _ _ _ h1 h2
   ·rw [if_neg e2,decide_eq_true_iff]at h2;rw [if_neg (by omega),decide_eq_true_iff];omega
  ·rw [if_neg e1,decide_eq_true_iff]at h1;by_cases e2:y.1=z.1
   ·rw [if_neg (by omega),decide_eq_true_iff];omega
   ·rw [if_neg e2,decide_eq_true_iff]at h2;rw [if_neg (by omega),decide_eq_true_iff];omega
 first:=λ_ hk=>by
  obtain⟨o,v,b,n,ho,hc,hd,h1,_⟩:=hk;obtain⟨tk,rfl⟩:=Ds h1;exact⟨o,_,n,_,tk,ho,hc,hd,rfl⟩
 cmp:=λ{A E b s x y p q Q} hu hx hy h=>by
  obtain⟨ox,v,px,nx,h1,h2,h3,h4,h5⟩:=hx;obtain⟨oy,v',py,ny,g1,g2,g3,g4,g5⟩:=hy;obtain⟨tu,rfl⟩:=Ds h4;obtain⟨tv,rfl⟩:=Ds g4;refine kat_lt h1 h3 g1 g3 ?_;show KatLex prog w A b _ Q [(_,_),(_,_)] 0 s;refine kat_cons (Mu ?_);unfold mO at h;by_cases e:x.1=y.1
  ·rw [if_pos e]at h;rw [beq_iff_eq.mpr e];refine kat_yes (kat_cons ((tupleKind (intKind prog w)).eqBool (show A.units<cLine by omega) h5 g5 ?_));by_cases e2:x.2=y.2
   ·rw [decide_eq_true e2];refine kat_yes (kat_nil ?_);rw [e2,vX]at h;exact h
   ·rw [decide_eq_false e2];refine kat_no ?_;rw [show(b && (0+1==0))=false by cases b<;>rfl];exact kat_one _ _ (LtN.tups (n:=A.units) h5 g5 (by omega) A (Am _) prog w _ _ h)
  ·rw [if_neg e]at h;rw [beq_eq_false_iff_ne.mpr e];refine kat_no ?_;rw [show(b && (0==0))=b by cases b<;>rfl];cases b with
   |true=>exact oneLt_int h
   |false=>exact kat_one _ _ (Ll (Q:=PySem.W.BoolBack Q) h)
def aBa (l:Bool) (zs:List Nat):SetTable:={mask:=7,place:=zs.toArray,dummies:= #[],finger:=0,led:=l,moves:=0,plain:=true}
def jD (zs:List Nat) (tk:Nat->Tok):Array (Int×Value):=(zs.map λz:Nat=>((z:Int),Cz (z:Int) (tk z))).toArray
def zs1 (x:Nat):Bool->List Nat
 |false=>[]
 |true=>[x]
def aZn {l:Bool} {x:Nat} {t:Tok} (hx:x∈[1,2,3]):layNew (aBa l []) (jD [] tk) (x:Int) (.int x t)=(jD [x] (λ_=>t),aBa l [x],false,false):=by
 simp only [Ca,Bm,or_false]at hx;rcases hx with rfl|rfl|rfl<;>cases l<;>kernel_rfl
variable {x:Nat}
def aH3 (s:Shared) (a:Addr) (l:Bool) (x:Nat) (b:Bool):Prop:=∃o ep tk,s.heap.get? a=some o/\o.ExactSet/\o.data= .set (jD (zs1 x b) tk) ep (aBa l (zs1 x b))
def aSo (b:Bool) (tk:Nat->Tok):(jD (zs1 x b) tk).size<=1:=by cases b<;>simp [jD,zs1]
def aP5 {l b:Bool} (hx:x∈[1,2,3]):(aBa l (zs1 x b)).fits (jD (zs1 x b) tk).size=true:=by
 simp only [Ca,Bm,or_false]at hx;cases b<;>rcases hx with rfl|rfl|rfl<;>rfl
def aMp (hx:x∈[1,2,3]):(intKind prog w).hash (x:Int)=(x:Int):=by
 simp only [Ca,Bm,or_false]at hx;rcases hx with rfl|rfl|rfl<;>rfl
def aWt {b:Bool} (hx:x∈[1,2,3]):ElemsOf (intKind prog w) (jD (zs1 x b) tk).toList:=by
 intro e he;obtain⟨z,hm,rfl⟩:=List.mem_map.mp (show e∈(zs1 x b).map _ from he);obtain rfl:z=x:=by
  cases b
  ·cases hm
  ·exact List.mem_singleton.mp hm
 exact⟨⟨(z:Int),Pe _ _ _ _,(aMp hx).symm⟩,rfl⟩
def aBf {a:Addr} {l b:Bool} {t:Tok} {Q:Bool->Shared->Prop} (hx:x∈[1,2,3]) (S:aH3 s a l x b) (h:∀(b:Bool) h',Cw a s.heap h'->aH3 {s with heap:=h'} a l x true->Q b {s with heap:=h'}):
  wpAny (model prog w) A (setAddHashed a (.int x t) (x:Int)) Q E s:=by
 obtain⟨o,ep,tk,ho,hex,hd⟩:=S;have hel:=aWt (prog:=prog) (w:=w) (b:=b) (tk:=tk) hx;have hsz:=aSo (x:=x) b tk;unfold setAddHashed setAddHashedIn;refine By (Aa (Dz ho hd (aP5 hx) ?_));dsimp only;rw [byScan_of (knd:=intKind prog w) rfl (by unfold scanBound;omega) hel];simp only [↓reduceIte];unfold setAddByScan;refine Aa ?_;refine Aa (Iy ?_);have hkey:(intKind prog w).is (x:Int) (.int x t)=true:=Pe _ _ _ _;have e1:wpAny (model prog w) A (setScan a (.int x t) (x:Int) true (jD (zs1 x b) tk)) (λr s'=>s'=s/\r=(match (jD (zs1 x b) tk).toList.findIdx? (λe=>(intKind prog w).is (x:Int) e.2)with|some j=> .found (0+j)|none=> .absent)) E s:=by
  have:=wpAny_setScan_of (knd:=intKind prog w) (adding:=true) (A:=A) (E:=E) (Q:=λr s'=>s'=s/\r=(match (jD (zs1 x b) tk).toList.findIdx? (λe=>(intKind prog w).is (x:Int) e.2)with|some j=> .found (0+j)|none=> .absent)) hkey ho hd (aP5 hx) hel ⟨rfl,rfl⟩;rw [aMp hx]at this;exact this
 refine Aa (Cq e1 (λr s' hr=>?_) λ_ _ z=>z);obtain⟨rfl,rfl⟩:=hr;cases b with
 |true=>
  have e:(jD (zs1 x true) tk).toList.findIdx? (λe=>(intKind prog w).is (x:Int) e.2)=some 0:=by
   show List.findIdx? _ [((x:Int),Cz (x:Int) (tk x))]=some 0;rw [List.findIdx?_cons,if_pos (Pe _ _ _ _)]
  rw [e];dsimp only;exact Af (Af (h false s'.heap (Vg a s'.heap) ⟨o,ep,tk,ho,hex,hd⟩))
 |false=>
  have e:(jD (zs1 x false) tk).toList.findIdx? (λe=>(intKind prog w).is (x:Int) e.2)=none:=rfl;rw [e];dsimp only;rw [show layNew (aBa l (zs1 x false)) (jD (zs1 x false) tk) (x:Int) (.int x t)=_ from aZn hx];dsimp only;refine Aa (Af ?_);rw [if_pos (show(aBa l [x]).plain=true from rfl)];refine Aa ?_;rw [hashByValue_scannable 8 (show(Cz x t).scannable=true from rfl)];refine Af ?_;rw [if_pos (show plainKind (Cz x t)=true from rfl)];refine Aa (Lx ho hd ?_ (by rw [Cr];show(1:Nat)<=_;decide));rw [show(!false && (aBa l [x]).tooFull)=false from rfl];simp only [Ao,if_false];refine Af (Af ?_);have hg:=Cc (Gu (jD [x] λ_=>t) (aBa l [x])) ho (by rw [Jy _ _ hd];rfl);rw [Jy _ _ hd]at hg;exact h true _ (Bw s'.heap a (Gu _ _)) ⟨_,_,λ_=>t,hg,hex,rfl⟩
def nO {I:Addr} {n:Nat} {St:Nat->Shared->Prop}
  (W:WalksS prog w A.in1 I fp wr G n P St) (S:Addr) (hSf:S∉fp) (l:Bool)
  (hval:∀i v,P i v->∃t,v= .int x t) (h3:x∈[1,2,3]):
  ∀(k i:Nat) (s:Shared),n-i=k->i<=n->St i s->aH3 s S l x (decide (0<i))->
   (∀s',Moved (S::wr) G s s'->aH3 s' S l x (decide (0<n))->R (.ok (.ret .none)) s')->
   codeAny (model prog w) A (.builtin "set.update.loop" ⟨[.ref S,.ref I],[]⟩) R s:=by
 have hSw:S∉wr:=λh=>hSf (W.sub _ h);have hsub:∀b∈wr,b∈S::wr:=λb hb=>Ad _ hb;intro k;induction k with
 |zero=>
  intro i s hk hi hst hS hR;have hin:i=n:=by omega
  subst hin;refine Ci Dx ?_;rw [Bt Bs _];show wpAny _ A.in1 (pyNext (.ref I)>>=_) _ _ s;refine Aa (W.done s _ _ hst λs' hm=>?_);show wpAny _ A.in1 (ret Ce) _ _ s';exact Af (hR s' (hm.mono hsub) (by
   obtain⟨o,ep,tk,ho,rest⟩:=hS;exact⟨o,ep,tk,hm.heap S _ hSw ho,rest⟩))
 |succ k ih=>
  intro i s hk hi hst hS hR;have hlt:i<n:=by omega
  refine Ci Dx ?_;rw [Bt Bs _];show wpAny _ A.in1 (pyNext (.ref I)>>=_) _ _ s;refine Aa (W.item i s _ _ hlt hst λv s' hP hst' hm=>?_);obtain⟨t,rfl⟩:=hval i v hP;have hS':aH3 {s' with toks:=s'.toks+1} S l x (decide (0<i)):=by
   obtain⟨o,ep,tk,ho,rest⟩:=hS;exact⟨o,ep,tk,hm.heap S _ hSw ho,rest⟩
  show wpAny _ A.in1 (holding [Cz x t] (setAdd S (.int x t))>>=_) _ _ s';refine Aa (By ?_);unfold setAdd;refine By ?_;refine Aa ((intKind prog w).pyHash (k:=(x:Int)) (Pe _ _ _ _) ?_);rw [aMp h3];refine aBf (s:={s' with toks:=s'.toks+1}) h3 hS' λb h' hsb hS2=>?_;refine Af ⟨Do Bs _,ih (i+1) _ (by omega) hlt (W.frame _ s' _ _ hst' (Gd _) λb hb o e=>?_) (by rw [decide_eq_true (Jk i)];exact hS2) λs'' hm'' hS''=>?_⟩
  ·rw [hsb.2 b (λh:b=S=>hSf (by rw [<-h];exact hb))];exact e
  ·refine hR s'' (Lj W.gtrans ((hm.mono hsub).then_heap (Gd _) λb o hb e=>?_) hm'') hS'';rw [hsb.2 b (λh:b=S=>hb (by rw [h];exact Ae))];exact e
def aAl (hh:A.handled=none) (hl:s.heap.IsList l items) (hi:∀(i:Nat) (v:Value),items[i]? =some v->∃t,v= .int x t) (h3:x∈[1,2,3])
  (h:∀(h':Heap) (tk:Nat),aH3 {s with heap:=h',toks:=tk} s.heap.objs.size (!w.params.followText "set-order") x (decide (0<items.size))->(∀b o,b<s.heap.objs.size->s.heap.get? b=some o->h'.get? b=some o)->Q (.ref s.heap.objs.size) {s with heap:=h',toks:=tk}):
  wpAny (model prog w) A (call (.type "set") [.ref l]) Q E s:=
 vO (λs'=>aH3 s' s.heap.objs.size (!w.params.followText "set-order") x (decide (0<items.size))) hh hl
  (λs1 W hSf hA hnt st kp hS hR=>nO W s.heap.objs.size hSf _ hi h3 (items.size-0) 0 s1 (by omega) (Bb _) st ⟨_,0,λ_=>0,hS,⟨rfl,rfl,rfl⟩,rfl⟩ λs' hm S=>hR s' hm S)
  λh' tk S kp=>h h' tk S kp
def xY (h:Heap) (d:Addr) (es:Array DictEntry) (ep:Nat):Prop:=∃o,h.get? d=some o/\o.ExactDict/\o.data= .dict es ep
def xY.at_ {h h':Heap} {d:Addr} {es:Array DictEntry} {ep:Nat} (x:xY h d es ep) (e:∀o,h.get? d=some o->h'.get? d=some o):xY h' d es ep:=let⟨o,ho,r⟩:=x;⟨o,e _ ho,r⟩
def xY.lt {h:Heap} {d:Addr} {es:Array DictEntry} {ep:Nat} (x:xY h d es ep):d<h.objs.size:=let⟨_,ho,_⟩:=x;Ap ho
variable {d it:Addr} {es:Array DictEntry} {ep i:Nat}
def xY.ty (x:xY s.heap d es ep):s.TypeIs (.ref d) "dict":=let⟨o,ho,c,_⟩:=x;⟨o,ho,c.1⟩
def aOw (lo:(d==sysModules)=false) (x:xY s.heap d es ep)
  (q:Q (.ref s.heap.objs.size) {s with heap:=s.heap.push {cls:= .type "dict_keyiterator",data:= .fields #[.ref d,.int 0 0,.int es.size 0,.int ep 0]}}):wpAny (model prog w) A (pyIter (.ref d)) Q E s:=by
 obtain⟨o,ho,c,dd⟩:=id x;refine Ly x.ty Sj (Dg Sj x.ty F.entry_dict_iter ?_ (F.args_dict_iter_1 _));unfold Builtin.«dict.__iter__» Vp;refine Aa (Aa (Qj x.ty (Af ?_)));show wpAny _ _ (Le d>>=_) _ _ s;unfold Le;rw [if_neg (by rw [lo];exact Aj)];refine Aa (Af (Aa (Lz ho dd (Aa (Nr ho dd ?_)))));refine Aa (Cv (Af ⟨_,rfl,"dict_keyiterator",_,⟨_,Ar _ rfl,rfl⟩,F.slot_dict_keyiterator_next.lookup,?_⟩));simpa [rawInt]using q
def aN5 {Q:Option Value->Shared->Prop} (y:s.heap.IsKeyIter it d i es.size ep) (x:xY s.heap d es ep) (hi:i<es.size)
  (q:∀g,g.IsKeyIter it d (i+1) es.size ep->Cw it s.heap g->Q (some es[i].key) {s with heap:=g}):wpAny (model prog w) A (pyNext (.ref it)) Q E s:=by
 obtain⟨o,ho,hc,hd⟩:=id y
 obtain⟨od,h1,_,h2⟩:=x
 have own:Iv "dict_keyiterator"=false:=by decide
 unfold pyNext
 refine Aa (Pi (Jg (name:=Au "__next__") y.typeIs Fp (Dg Fp y.typeIs Mj ?_ (Lv _))))
 refine Aa (Af (Aa (Aa ?_)))
 first|refine Aa (Fg y.typeIs (Af ?_))|refine Aa (Gn y.typeIs (Af ?_))
 refine Aa (Oj ho hd ?_)
 simp only [own,Ao,if_false]
 show wpAny _ _ (if(An d==Ce)=true then _ else _) _ _ s
 rw [if_neg (show¬((An d==Ce)=true)from Aj)]
 refine Aa (Af (Aa (Lz h1 h2 ?_)))
 rw [if_neg (by simp)]
 refine Aa (Af (Aa (Nr h1 h2 ?_)))
 rw [if_neg (by simp)]
 refine Af ?_
 simp only [show¬((i:Int)<0)from by omega,if_false,Ik,Bc hi]
 refine Aa ?_
 first|refine Aa (Fg y.typeIs (Af ?_))|refine Aa (Gn y.typeIs (Af ?_))
 refine Aa (Ql y.typeIs ?_)
 show wpAny _ _ (setField (.ref it) 1 (rawInt ((i:Int)+1))>>=_) _ _ s
 refine Aa (Io ho hd (by simp) ?_)
 have y':(s.heap.update it (Ny (·.setIfInBounds 1 (rawInt ((i:Int)+1))))).IsKeyIter it d (i+1) es.size ep:=
  ⟨_,Cc _ ho (Ji (Fd hd _)),(Ks ..).trans hc,by rw [Fd hd];simp [rawInt]⟩
 refine Aa (By (Aa (Ql (s:={s with heap:=s.heap.update it (Ny (·.setIfInBounds 1 (rawInt ((i:Int)+1))))}) y'.typeIs ?_)))
 show wpAny _ _ (pure es[i].key) _ _ _
 exact Af (Af ⟨_,rfl,Af (q _ y' (Bw ..))⟩)
def aQu {Q:Option Value->Shared->Prop} (hh:A.handled=none) (y:s.heap.IsKeyIter it d es.size es.size ep) (x:xY s.heap d es ep) (q:∀g,Vh it s.heap g->Q none {s with heap:=g}):wpAny (model prog w) A (pyNext (.ref it)) Q E s:=by
 obtain⟨o,ho,hc,hd⟩:=id y
 obtain⟨od,h1,_,h2⟩:=x
 have own:Iv "dict_keyiterator"=false:=by decide
 unfold pyNext
 refine Aa (Pi (Jg (name:=Au "__next__") y.typeIs Fp (Dg Fp y.typeIs Mj ?_ (Lv _))))
 refine Aa (Af (Aa (Aa ?_)))
 first|refine Aa (Fg y.typeIs (Af ?_))|refine Aa (Gn y.typeIs (Af ?_))
 refine Aa (Oj ho hd ?_)
 simp only [own,Ao,if_false]
 show wpAny _ _ (if(An d==Ce)=true then _ else _) _ _ s
 rw [if_neg (show¬((An d==Ce)=true)from Aj)]
 refine Aa (Af (Aa (Lz h1 h2 ?_)))
 rw [if_neg (by simp)]
 refine Aa (Af (Aa (Nr h1 h2 ?_)))
 rw [if_neg (by simp)]
 refine Af ?_
 simp only [show¬((es.size:Int)<0)from by omega,if_false,Ik,Nl (Am _)]
 refine Aa ?_
 first|refine Aa (Fg y.typeIs (Af ?_))|refine Aa (Gn y.typeIs (Af ?_))
 show wpAny _ _ (setField (.ref it) 0 .none>>=_) _ _ s
 refine Aa (Io ho hd (by simp) ?_)
 show wpAny _ _ (newExc (.type "StopIteration") []>>=_) _ _ _
 simp only [newExc,newTuple]
 refine Aa (Aa (Cv ?_ (by size_fits)))
 refine Aa (m:=firstArgMember _ _) (Np (a:=Ce) (by first|rfl|(simp only [firstArgMember];rfl)) ?_)
 refine Cv ?_ (by size_fits)
 simp only [raiseNew]
 refine Aa (wpAny_handled ?_)
 rw [show A.in1.handled=none from hh]
 refine Aa (Af (wpAny_throw ?_))
 refine Aa (Fh (T:="StopIteration") (b:=true) ⟨_,Ar _ rfl,rfl⟩ isSubtype_stop ?_)
 exact Af (q _ (((Bw ..).extBut.push _).push _))
def aLs (hh:A.handled=none) (I d:Addr) (ne:d≠I) (es:Array DictEntry) (ep:Nat):Walks prog w A I [I,d] [I] es.size (λi v=>∃e,es[i]? =some e/\v=e.key) (λi h=>h.IsKeyIter I d i es.size ep/\xY h d es ep) where
 sub:=λb hb=>by simp at hb;simp [hb]
 frame:=λ_ _ _ st hk=>⟨st.1.at λo e=>hk I (by simp) o e,st.2.at_ λo e=>hk d (by simp) o e⟩
 item:=λi s Q E hi st hQ=>aN5 st.1 st.2 hi λg y' sb=>hQ _ g s.toks ⟨_,Bc hi,rfl⟩ ⟨y',st.2.at_ λo e=>sb.extBut d o ne e⟩ λb o hb e=>sb.extBut b o (λh=>hb (by simp [h])) e
 done:=λs Q E st hQ=>aQu hh st.1 st.2 λg he=>hQ g s.toks λb o hb e=>he b o (λh=>hb (by simp [h])) e
 self:=λ_ _ _ _ st hQ=>wpAny_pyIter_keyiter st.1 hQ
def aQw (lo:(d==sysModules)=false):Qf prog w "dict" d d es.size (λi v=>∃e,es[i]? =some e/\v=e.key) (λh=>xY h d es ep) where
 type:=λ_ hm=>hm.ty
 there:=λ_ hm=>⟨hm.lt,hm.lt⟩
 keep:=λ_ _ hm hk=>hm.at_ λo e=>hk d (.inl rfl) o e
 notList:=by decide
 notTuple:=by decide
 hint:=λ_ _ _ _ hm hq=>PySem.W.kdl_hint_dict hm.ty hq
 iter:=λ_ _ hh hm=>⟨_,_,(λ_ _ hq=>aOw lo hm hq),aLs hh _ d (Ax hm.lt) es ep,⟨⟨_,Ar _ rfl,rfl,rfl⟩,hm.at_ λ_ e=>Ai _ e⟩⟩
def tZ {prog:Program} {w:World} {A:Around} {E:Value->Shared->Prop} {s:Shared} {a:Addr} {o:Obj} {xs:Array Value} {k:Nat} {name:Str} {Q:Option Value->Shared->Prop}
  (hx:s.heap.get? a=some o) (hc:o.cls= .type "list") (hdat:o.data= .seq xs k) (hd:o.dict=none) (hmiss:typeLookup (.type "list") name=pure none) (hname:(["__module__","__name__","__qualname__","__doc__","__annotations__"]:List Str).contains name=false) (hA:A.handled=none)
  (h:∀h' tk e,Heap.NewExcOf s.heap h' e "AttributeError"->Q none {s with heap:=h',toks:=tk}) (hsz:name.length+100<=sizeLine:=by size_fits):
  wpAny (model prog w) A (getAttr? (.ref a) name) Q E s:=by
 obtain⟨c,dct,dat,sl⟩:=o;simp only at hc hdat hd;subst hc hdat hd;obtain⟨hp,g,d,tk,os⟩:=s;have hT:∀tk',(⟨hp,g,d,tk',os⟩:Shared).TypeIs (.ref a) "list":=λ_=>⟨_,hx,rfl⟩;have f1:=sub_AttributeError;have f3:=F.slot_list_getattribute.lookup;have f4:=F.slot_list_getattribute.bind (.ref a);have f5:=am_list_getattr_none;unfold getAttr? getAttrBy? getAttrBy
 repeat (any_goals (first|assumption|exact hT _|((with_reducible show wpAny _ _ (call (Rn "list.__getattribute__") _ _) _ _ _);refine Pf F.slot_list_getattribute (hT _) am_entry_list_getattribute (F.args_list_getattribute_2 _ _) (meets_getattribute_miss_list a xs k sl name _ hmiss hname hsz) ⟨hx,hA,λh' tk' e hx'=>?_⟩)|wp_step))
 obtain⟨t',u',he⟩:=hx'.there;show wpAny _ _ (getattributeRaised _ _ _ _ _ _ _) _ _ _;unfold getattributeRaised
 repeat (any_goals (first|assumption|wp_step))
 exact h _ _ _ hx'.of
namespace F
def iR:entryFor table "dict.update.loop"=some Builtin.«dict.update.loop»:=Ud (by kernel_rfl)
def cX:plainId "dict.update.loop"=true:=by decide+kernel
def aA3:typeLookup (.type "list") "keys"=pure none:=by rw [Nt,Jz];kernel_rfl
end F
section
variable {prog:Program} {w:World} {K:Type} [DecidableEq K] {knd:HeapKind prog w K}
def aF6 (xs:List (K×Addr×Value)) (k:K) (a:Addr) (v:Value):(storedH xs k a v).length<=xs.length+1:=by
 unfold storedH;split
 ·rw [Ab];omega
 ·rw [Ag];exact Am _
def aGd {xs:List (K×Addr×Value)} {k:K} {a:Addr} {v:Value} {x:K×Addr×Value} (h:x∈storedH xs k a v):(∃y∈xs,x.1=y.1/\x.2.1=y.2.1)∨(x.1=k/\x.2.1=a):=by
 unfold storedH at h;split at h
 ·obtain⟨y,hy,rfl⟩:=List.mem_map.mp h;refine .inl ⟨y,hy,?_⟩;unfold putAt;split<;>exact⟨rfl,rfl⟩
 ·rcases List.mem_append.mp h with h|h
  ·exact .inl ⟨x,h,rfl,rfl⟩
  ·simp only [Fc]at h;subst h;exact .inr ⟨rfl,rfl⟩
def oV (L:List (K×Addr×Value)):List (K×Addr×Value):=L.foldl (λxs x=>storedH xs x.1 x.2.1 x.2.2) []
def pA (L:List (K×Addr×Value)) (x:K×Addr×Value):oV (L++[x])=storedH (oV L) x.1 x.2.1 x.2.2:=by unfold oV;rw [List.foldl_append];rfl
theorem aB8:∀(n:Nat) (L:List (K×Addr×Value)),L.length=n->(oV L).length<=n
 |0,L,h=>by rw [List.length_eq_zero_iff.mp h];exact Am _
 |n+1,L,h=>by
  obtain⟨M,x,rfl⟩:∃M x,L=M++[x]:=⟨L.dropLast,L.getLast (by intro z;rw [z]at h;cases h),(Hi _).symm⟩;rw [Ag,De]at h;rw [pA];have:=aB8 n M (by omega);have:=aF6 (oV M) x.1 x.2.1 x.2.2;omega
theorem aE9 {h:Heap}:∀(n:Nat) (L:List (K×Addr×Value)),L.length=n->(∀x∈L,knd.is h x.1 x.2.1)->∀x∈oV L,knd.is h x.1 x.2.1
 |0,L,e,_,x,hx=>by rw [List.length_eq_zero_iff.mp e]at hx;exact nomatch hx
 |n+1,L,e,hL,x,hx=>by
  obtain⟨M,y,rfl⟩:∃M x,L=M++[x]:=⟨L.dropLast,L.getLast (by intro z;rw [z]at e;cases e),(Hi _).symm⟩;rw [Ag,De]at e;rw [pA]at hx;rcases aGd hx with ⟨z,hz,e1,e2⟩|⟨e1,e2⟩
  ·rw [e1,e2];exact aE9 n M (by omega) (λu hu=>hL u (Es _ hu)) z hz
  ·rw [e1,e2];exact hL y (Ba _ (List.mem_singleton.mpr rfl))
def Heap.DObj (h:Heap) (knd:HeapKind prog w K) (d:Addr) (xs:List (K×Addr×Value)):Prop:=∃o es ep,h.get? d=some o/\o.ExactDict/\o.data= .dict es ep/\es.toList=xs.map (entryOfKey knd)/\(xs.map (·.1)).Nodup
def Heap.TwoAt (h:Heap) (p:Addr) (x y:Value):Prop:=∃o n,h.get? p=some o/\o.cls= .type "tuple"/\o.data= .seq #[x,y] n
variable {A:Around} {R:Result->Shared->Prop} {I:Addr} {fp wr:List Addr} {G:Array GenState->Array GenState->Prop} {n:Nat} {P:Nat->Value->Prop} {St:Nat->Shared->Prop}
def mV (W:WalksS prog w A.in1 I fp wr G n P St) (d:Addr) (hSf:d∉fp) {h₀:Heap} (hd₀:h₀.get? d=none) (hw₀:∀b∈wr,h₀.get? b=none) (hro:knd.room A.in1)
  (mono:∀h' x a,knd.is h₀ x a->(∀b o,h₀.get? b=some o->h'.get? b=some o)->knd.is h' x a)
  (L:List (K×Addr×Value)) (hL:L.length=n) (hn:n<=sizeLine) (hk:∀x∈L,knd.is h₀ x.1 x.2.1) (hv:∀i v,P i v->∃x p,L[i]? =some x/\v= .ref p/\h₀.TwoAt p (.ref x.2.1) x.2.2):
  ∀(k i:Nat) (s:Shared) (ti:Tok),n-i=k->i<=n->St i s->(∀b o,h₀.get? b=some o->s.heap.get? b=some o)->s.heap.DObj knd d (oV (L.take i))->
   (∀s',Moved (d::wr) G s s'->s'.heap.DObj knd d (oV L)->R (.ok (.ret .none)) s')->
   codeAny (model prog w) A (.builtin "dict.update.loop" ⟨[.ref d,.ref I,.int (i:Int) ti,.none],[]⟩) R s:=by
 have hdw:d∉wr:=λh=>hSf (W.sub _ h);have hsub:∀b∈wr,b∈d::wr:=λb hb=>Ad _ hb;intro k;induction k with
 |zero=>
  intro i s ti hki hi hst hold hS hR;have hin:i=n:=by omega
  subst hin;refine Ci F.iR ?_;rw [Bt F.cX _];show wpAny _ A.in1 (pyNext (.ref I)>>=_) _ _ s;refine Aa (W.done s _ _ hst λs' hm=>?_);show wpAny _ A.in1 (Vq d []>>=λ_=>ret Ce) _ _ s';refine Aa (Af (Af (hR s' (hm.mono hsub) ?_)));obtain⟨o,es,ep,ho,rest⟩:=hS;rw [Fb (Oz hL)]at rest;exact⟨o,es,ep,hm.heap d _ hdw ho,rest⟩
 |succ k ih=>
  intro i s ti hki hi hst hold hS hR;have hlt:i<n:=by omega
  refine Ci F.iR ?_;rw [Bt F.cX _];show wpAny _ A.in1 (pyNext (.ref I)>>=_) _ _ s;refine Aa (W.item i s _ _ hlt hst λv s' hP hst' hm=>?_);obtain⟨x,p,hx,rfl,ot,m,hot,hct,hdt⟩:=hv i v hP;have hold':∀b o,h₀.get? b=some o->s'.heap.get? b=some o:=λb o e=>hm.heap b o (λz=>by rw [hw₀ b z]at e;cases e) (hold b o e);have hot':=hold' _ _ hot;have hT:s'.TypeIs (.ref p) "tuple":=⟨ot,hot',hct⟩;have mx:x∈L:=Bn hx;show wpAny _ A.in1 (holding [An p] _>>=_) _ _ s';refine Aa (By ?_);refine Aa (Kj ?_);unfold Vo;refine Aa (Il hT ?_);rw [if_pos (by decide)];refine Aa (Ew hot' hdt (Af ?_));show wpAny _ A.in1 (holding [An x.2.1,x.2.2] (dictSet d (.ref x.2.1) x.2.2)) _ _ s';refine By ?_;have hi':(L.take i).length=i:=by rw [Cd];omega
  have hS':s'.heap.DictOfH knd d (oV (L.take i)):=by
   obtain⟨o,es,ep,ho,h1,h2,h3,h4⟩:=hS;refine⟨o,es,ep,hm.heap d _ hdw ho,h1,h2,h3,λy hy=>mono _ _ _ ?_ hold',h4⟩;exact aE9 i (L.take i) hi' (λu hu=>hk u (Jn hu)) y hy
  have ls:=aB8 i (L.take i) hi';refine wpAny_dictSet_heap (hsz:=by omega) hro (mono _ _ _ (hk x mx) hold') hS' λh' hd' hsb=>?_;have et:oV (L.take (i+1))=storedH (oV (L.take i)) x.1 x.2.1 x.2.2:=by
   rw [Hw,hx];exact pA _ _
  have nd:∀b o,h₀.get? b=some o->b≠d:=λb o e z=>by rw [z,hd₀]at e;cases e
  refine Af ⟨Do F.cX _,ih (i+1) _ _ (by omega) hlt (W.frame _ s' _ _ hst' (Gb _ _) λb hb o e=>?_) (λb o e=>(hsb.2 b (nd b o e)).trans (hold' b o e)) ?_ λs'' hm'' hS''=>?_⟩
  ·rw [hsb.2 b (λh:b=d=>hSf (by rw [<-h];exact hb))];exact e
  ·rw [et];obtain⟨o,es,ep,h1,h2,h3,h4,_,h5⟩:=hd';exact⟨o,es,ep,h1,h2,h3,h4,h5⟩
  ·refine hR s'' (Lj W.gtrans ((hm.mono hsub).then_heap (Gb _ _) λb o hb e=>?_) hm'') hS'';rw [hsb.2 b (λh:b=d=>hb (by rw [h];exact Ae))];exact e
end
section
variable {prog:Program} {w:World} {K:Type} [DecidableEq K] {knd:HeapKind prog w K} {A:Around} {E:Value->Shared->Prop} {s:Shared}
def yG {k:Nat} (hh:A.handled=none) (hl:s.heap.get? l=some {cls:= .type "list",data:= .seq items k}) (hro:knd.room A.in1.in1)
  (mono:∀h' x a,knd.is s.heap x a->(∀b o,s.heap.get? b=some o->h'.get? b=some o)->knd.is h' x a)
  (L:List (K×Addr×Value)) (hL:L.length=items.size) (hn:items.size<=sizeLine) (hk:∀x∈L,knd.is s.heap x.1 x.2.1) (hv:∀(i:Nat) (v:Value),items[i]? =some v->∃x p,L[i]? =some x/\v= .ref p/\s.heap.TwoAt p (.ref x.2.1) x.2.2)
  (h:∀h' tk,h'.DObj knd s.heap.objs.size (oV L)->(∀b o,s.heap.get? b=some o->h'.get? b=some o)->Q (.ref s.heap.objs.size) {s with heap:=h',toks:=tk}):
  wpAny (model prog w) A (call (.type "dict") [.ref l]) Q E s:=by
 refine callType_codes (Q₁:=λobj s₁=>obj= .ref s.heap.objs.size/\s₁={s with heap:=s.heap.push {cls:= .type "dict",data:= .dict #[]}}) F.kt_called_dict (F.kt_typeCall_dict_1 _) F.entry_dict_init (kt_code_dict_new _ ⟨rfl,rfl⟩) ?_;rintro obj s₁ ⟨rfl,rfl⟩;have hnew:(s.heap.push {cls:= .type "dict",data:= .dict #[]}).DictOfH knd s.heap.objs.size []:=Vi s.heap;have hl':(s.heap.push {cls:= .type "dict",data:= .dict #[]}).get? l=some {cls:= .type "list",data:= .seq items k}:=Ai _ hl;have hT:Jt {s with heap:=s.heap.push {cls:= .type "dict",data:= .dict #[]}} (.ref l) "list":=⟨_,hl',rfl⟩;refine⟨hnew.typeIs,F.args_dict_init_2 _ _,?_⟩;unfold Builtin.«dict.__init__»;refine Aa ?_;unfold Vn;refine Aa (Qj hnew.typeIs ?_);show wpAny _ _ (pure (s.heap.objs.size,[An l])) _ _ _;refine Af ?_;show wpAny _ _ (Ko "dict.__init__" s.heap.objs.size (.ref l) [] .none) _ _ _;unfold Ko;refine Aa (Il hT ?_);rw [if_pos (by decide)];refine Aa (tZ hl' rfl rfl rfl F.aA3 (by decide) hh λh1 tk e hx=>?_);have k1:∀b o,(s.heap.push {cls:= .type "dict",data:= .dict #[]}).get? b=some o->h1.get? b=some o:=hx.keeps;simp only [Option.isNone_none,if_true];refine Aa (Iy ?_);have hl1:h1.IsList l items:=⟨_,k1 _ _ hl',rfl,k,rfl⟩;refine Aa (He hl1 ?_);have hld:l<s.heap.objs.size:=Ap hl;have hd1:h1.get? s.heap.objs.size=some {cls:= .type "dict",data:= .dict #[]}:=k1 _ _ (Ar _ rfl);have hds:s.heap.objs.size<h1.objs.size:=Ap hd1;have hls:l<h1.objs.size:=Hv hld hds;refine Aa (Af (Af ⟨Do F.cX _,?_⟩));have hh3:A.in1.in1.handled=none:=by simp [hh]
 have hneI:l≠h1.objs.size:=Ax hls;have hSf:s.heap.objs.size∉[h1.objs.size,l]:=by
  simp only [Ca,Bm,or_false,not_or];exact⟨Ax hds,Ha hld⟩
 refine mV (knd:=knd) (h₀:=s.heap) ((Kg hh3 _ l hneI items).toS) s.heap.objs.size hSf (Jp (Am _)) (λb hb=>?_) hro mono L hL hn hk hv (items.size-0) 0 _ _ rfl (Bb _)
  ⟨⟨_,Ar _ rfl,rfl,rfl⟩,(hl1.push _)⟩ (λb o e=>Ai _ (k1 _ _ (Ai _ e))) ?_ λs' hm hS'=>?_
 ·rw [List.mem_singleton.mp hb];exact Jp (Eh hds)
 ·exact⟨_, #[],0,Ai _ hd1,⟨rfl,rfl,rfl⟩,rfl,rfl,Hx⟩
 ·obtain⟨h',g',d',tk',os'⟩:=s';have eg:g'=s.gens:=hm.gens;have ed:d'=s.drawn:=hm.drawn;have eo:os'=s.os:=hm.os;subst eg;subst ed;subst eo;refine⟨rfl,h h' tk' hS' λb o e=>?_⟩;have hb:b<s.heap.objs.size:=Ap e;exact hm.heap b o (by simp only [Ca,Bm,or_false,not_or];exact⟨Ax hb,Ax (Hv hb hds)⟩) (Ai _ (k1 _ _ (Ai _ e)))
end
end PySem
namespace L2
variable {pos:Pos} {a:Expr} {scope:Scope} {x:Str} {i:Nat} {xs:List V} {p:Addr} {v:V} {g:TG} {k:Nat} {elt iter tg:Expr} {cl:List (Str×Addr)} {ns:List Str} {te:TE} {RR:Value->Addr->Result->Shared->Prop} {E:Value->Shared->Prop} {wi:TI} {P:Program} {ps:List Str} {y:V} {r:List V->Hp->VK->Prop} {Q:VK} {rest:List Expr} {m:Nat} {S:Addr->Prop} {tn:Nat->Heap->Prop} {acc:List V} {t:TE} {vs:List V} {f:Int->Int->V} {Cs:Addr->Prop} {body:List Stmt} {fp:List Addr} {C:Addr} {α:Type} {tc:TT}
open PySem PySem.Spec PyProof.Rows
section
variable {prog:Program} {w:World} {A:Around} {R:Result->Shared->Prop} {s:Shared}
def aEh {elt target iter:Expr} {it acc:Value} {env:Env} (I:Nat->Shared->Prop)
  (turn:∀n s,I n s->wpAny (model prog w) A (pyNext it) (λr s₁=>match r with
   |none=>R (.ok .next) s₁
   |some v=>wpAny (model prog w) A (letOwnedTupleGo target it v) (λ_ s₁'=>wpAny (model prog w) A (assign target env v) (λ_ s₂=>wpAny (model prog w) A (eval elt env) (λx s₃=>
     wpAny (model prog w) A (call (.builtin "list.append") [acc,x]) (λ_ s₄=>∃m,m<n/\I m s₄) (λ_ _=>False) s₃) (λ_ _=>False) s₂) (λ_ _=>False) s₁') (λ_ _=>False) s₁) (λ_ _=>False) s)
  (n:Nat) (h:I n s):
  codeAny (model prog w) A (.compLoop (.ListComp elt [⟨target,iter,[],0⟩] scope pos) 0 it acc env) R s:=by
 refine codeAny_loop rfl I (λn s hI=>?_) n h;show wpAny _ _ ((compTurn (.ListComp elt [⟨target,iter,[],0⟩] scope pos) 0 it acc env).onRaise (λx=>do noteFrame x env;theTreesLotGoes x)) _ _ s;refine wpAny_noted ?_;rw [compTurn_list1];refine Aa (Jf (Aa (Cq (turn n s hI) (λr s₁ h₁=>?_) λ_ _ h'=>h'.elim)));cases r with
 |none=>exact Af h₁
 |some v=>
  refine Aa (Cq h₁ (λ_ s₁' h₁'=>?_) λ_ _ h'=>h'.elim);exact Aa (Cq h₁' (λ_ s₂ h₂=>Aa (Aa (Cq h₂ (λx s₃ h₃=>Aa (Cq h₃
   (λ_ s₄ h₄=>Af (Af ⟨rfl,h₄⟩)) λ_ _ h'=>h'.elim)) λ_ _ h'=>h'.elim))) λ_ _ h'=>h'.elim)
end
theorem gG {env:Env} (hk:env.scope.kind= .function):∀{names:List (Str×NameKind)} {x:Str},names.lookup x=some .free->env.kindOf x=some .cell->
  (names.map λ(n,k)=>if(k==Dq && env.scope.kind== .function && env.kindOf n==some .cell)then(n,Gy)else(n,k)).lookup x=some .cell
 | [],_,h,_=>by simp at h
 |(n,k)::r,x,h,hc=>by
  have ih:=@gG env hk r x;show Fl x ((if(k==Dq && env.scope.kind== .function && env.kindOf n==some .cell)=true then(n,Gy)else(n,k))::_)=_;cases hx:x==n with
  |true=>
   have e:x=n:=eq_of_beq hx;subst e;simp only [Bo,hx]at h;cases h;rw [if_pos (by rw [hk,hc];rfl)];simp [Bo]
  |false=>
   simp only [Bo,hx]at h;by_cases hcc:(k==Dq && env.scope.kind== .function && env.kindOf n==some .cell)=true
   ·rw [if_pos hcc];simp only [Bo,hx];exact ih h hc
   ·rw [if_neg hcc];simp only [Bo,hx];exact ih h hc
theorem iB {env:Env}:∀{names:List (Str×NameKind)} {x:Str},((names.map λ(n,k)=>if(k==Dq && env.scope.kind== .function && env.kindOf n==some .cell)then(n,Gy)else(n,k)).lookup x=some .cell∨
  (names.map λ(n,k)=>if(k==Dq && env.scope.kind== .function && env.kindOf n==some .cell)then(n,Gy)else(n,k)).lookup x=some .free)->names.lookup x=some .free∨names.lookup x=some .cell
 | [],_,h=>by simp at h
 |(n,k)::r,x,h=>by
  have ih:=@iB env r x
  replace h:Fl x ((if(k==Dq && env.scope.kind== .function && env.kindOf n==some .cell)=true then(n,Gy)else(n,k))::_)=_∨Fl x ((if(k==Dq && env.scope.kind== .function && env.kindOf n==some .cell)=true then(n,Gy)else(n,k))::_)=_:=h
  cases hx:x==n with
  |true=>
   simp only [Bo,hx];by_cases hcc:(k==Dq && env.scope.kind== .function && env.kindOf n==some .cell)=true
   ·have:k= .free:=by
     have:=(Fz _ _▸(Fz _ _▸hcc).1).1;exact eq_of_beq this
    exact .inl (by rw [this])
   ·rw [if_neg hcc]at h;simp only [Bo,hx]at h;rcases h with h|h
    ·exact .inr h
    ·exact .inl h
  |false=>
   simp only [Bo,hx];by_cases hcc:(k==Dq && env.scope.kind== .function && env.kindOf n==some .cell)=true
   ·rw [if_pos hcc]at h;simp only [Bo,hx]at h;exact ih h
   ·rw [if_neg hcc]at h;simp only [Bo,hx]at h;exact ih h
def qQ {a b c:Nat} (h1:a<b) (h2:b<=c):a≠c:=Ax (Bf h1 h2)
abbrev bR (X:Cx) (Nc:List Str) (scope:Scope) (cl:List (Str×Addr)) (C:Addr) (s2:Shared) (H2:Hp) (fp:List Addr):Cx:=
 {prog:=X.prog,w:=X.w,K:=X.K,mg:=X.mg,base:=X.base,A:=X.A,N:=Nc,s₀:=s2,H₀:=H2,env:=compEnvC scope cl C X.env,outer:=X.stack,stack:=X.stack,ex:=fp,fn:=λ_=>false,calm:=X.calm,pn:=[],xe:=λ_ _=>False}
abbrev eE (own:List Str) (cap:List (Str×Nat)):List Str:=own++cap.map (·.1)
def kJ (no:Nat) (cap:List (Str×Nat)) (σ:St):St:=Jr no none++cap.map λp=>(σ[p.2]?).join
structure iH (X:Cx) (scope:Scope) (cap:List (Str×Nat)) (cl:List (Str×Addr)):Prop where
 clos:closureFor scope X.env=pure cl
 kind:scope.kind= .function
 nocell:∀y∈scope.names,y.2≠ .cell
 names:∀y∈scope.names,y.2= .local->scope.names.lookup y.1=some .local
 sub:∀x c,cl.lookup x=some c->X.env.cells.lookup x=some c
 has:∀x,scope.names.lookup x=some .free->∃c,cl.lookup x=some c
 cap:∀p∈cap,X.N[p.2]? =some p.1/\scope.names.lookup p.1=some .free/\X.env.scope.names.lookup p.1=some .cell
def aSs (J:It) (D:Addr) (g:TG) (te:TE) (Q:VK) (σ:St) (H:Hp):Prop:=∃W:Nat->Nat->St->Hp->Prop,
 (∃m,W 0 m σ H)/\∀i m σc H2,W i m σc H2->
  (J.stop i H2/\Q (.ref D) H2)∨(J.go i H2/\∀x H3,J.yld i H2 x H3->g x σc H3 λσ4 H4=>te σ4 H4 λy H5=>∃ys,H5 D=some (.lst ys)/\ys.length<sizeLine/\∃m',m'<m/\W (i+1) m' σ4 (upd H5 D (.lst (ys++[y]))))
def aBv (no:Nat) (cap:List (Str×Nat)) (wi:TI) (g:TG) (te:TE):TE:=λσ H Q=>wi σ H λJ H1=>∀D,H1 D=none->aSs J D g te Q (kJ no cap σ) (upd H1 D (.lst []))
variable {X:Cx} {pins:List (Addr×Obj)} {σ:St} {s2:Shared} {H2:Hp}
def aCk {no:Nat} {cap:List (Str×Nat)} {own:List Str} (hno:own.length=no) (h1:(eE own cap)[i]? =some x) (h2:(kJ no cap σ)[i]? =some (some v)):
  ∃p∈cap,p.1=x/\σ[p.2]? =some (some v):=by
 subst hno;unfold kJ at h2;by_cases hi:i<own.length
 ·rw [Dv (by simpa using hi),Ee]at h2;rw [if_pos hi]at h2;cases h2
 ·rw [Cu (by simpa using hi)]at h2;unfold eE at h1;rw [Cu (by simpa using hi)]at h1;rw [Ep,Az]at h2;rw [Az]at h1;cases e:cap[i-own.length]? with
  |none=>rw [e]at h1;cases h1
  |some p=>
   rw [e]at h1 h2;refine⟨p,Bn e,Bl h1,?_⟩;have q:(σ[p.2]?).join=some v:=Bl h2;cases e2:σ[p.2]? with
   |none=>rw [e2]at q;cases q
   |some o=>rw [e2]at q;exact congrArg some q
def aAy {own:List Str} {cap:List (Str×Nat)} {J:It} {it:Addr}
    (S:iH X scope cap cl) (hc:X.calm=true) (I:Inv X pins σ H2 s2) (T:Turn X.prog X.w X.K tg J fp it tn) (st:tn 0 s2.heap) (hf:∀b∈fp,aBj X pins H2 b)
    (hg:∀C s2 H2 fp,PG (bR X (eE own cap) scope cl C s2 H2 fp) tg g) (he:∀C s2 H2 fp,PE (bR X (eE own cap) scope cl C s2 H2 fp) elt te)
    (W:Nat->Nat->St->Hp->Prop) (w0:∃m,W 0 m (kJ own.length cap σ) (upd H2 s2.heap.objs.size (.lst [])))
    (turn:∀i m σc H3,W i m σc H3->(J.stop i H3/\Q (.ref s2.heap.objs.size) H3)∨(J.go i H3/\∀x H4,J.yld i H3 x H4->g x σc H4 λσ5 H5=>te σ5 H5 λy H6=>∃ys,H6 s2.heap.objs.size=some (.lst ys)/\ys.length<sizeLine/\∃m',m'<m/\W (i+1) m' σ5 (upd H6 s2.heap.objs.size (.lst (ys++[y])))))
    (hRR:∀C H' s' m,s2.heap.objs.size<=C->s'.heap.Ns C m->H' C=none->Inv X pins σ H' s'->(∀h',Cw C s'.heap h'->Inv X pins σ H' {s' with heap:=h'})->Q (.ref s2.heap.objs.size) H'->RR (.ref s2.heap.objs.size) C (.ok .next) s')
 :
    wpAny (model X.prog X.w) X.A (newList []) (λacc s₃=>wpAny (model X.prog X.w) X.A (newFunctionEnv scope X.env.globals cl [] X.env.qual none .none (some X.env)) (λcenv s₄=>
      codeAny (model X.prog X.w) X.A (.compStart (.ListComp elt [⟨tg,iter,[],0⟩] scope pos) 0 (.ref it) acc {cenv with scope:=relabel scope X.env}) (RR acc cenv.locals) s₄) E s₃) E s2:=by
  refine Cv (Qz S.nocell (by intro y hy;simp at hy) (λh₁ hns₁ hsb₁=>?_) S.kind);dsimp only at hns₁ hsb₁⊢;generalize hH2:s2.heap.push {cls:= .type "list",dict:=none,data:= .seq ([]:List Value).toArray}=G2 at hns₁ hsb₁⊢;have hC:G2.objs.size=s2.heap.objs.size+1:=by rw [<-hH2,Dk]
  have hDC:s2.heap.objs.size≠G2.objs.size:=by rw [hC];exact Ax (Ed _)
  have hCle:s2.heap.objs.size<=G2.objs.size:=by rw [hC];exact Gd _
  have below:∀b,b<s2.heap.objs.size->b≠G2.objs.size/\b≠s2.heap.objs.size:=λb hb=>⟨by rw [hC];exact Ax (Ei hb),Ax hb⟩;have old:∀b o,s2.heap.get? b=some o->h₁.get? b=some o:=λb o e=>hsb₁.extBut b o (below b (Ap e)).1 (Ai _ (hH2▸Ai _ e));have hacc:h₁.get? s2.heap.objs.size=some {cls:= .type "list",dict:=none,data:= .seq ([]:List Value).toArray}:=hsb₁.extBut _ _ hDC (Ai _ (hH2▸Ar _ rfl));have hfps:∀b∈fp,b<s2.heap.objs.size:=λb hb=>by
    obtain⟨o,e,_⟩:=T.obj _ _ st b hb;exact Ap e
  have hfree:∀b,s2.heap.objs.size<=b->H2 b=none:=λb hb=>I.hok.fresh hb;generalize hX:bR X (eE own cap) scope cl G2.objs.size s2 H2 fp=X';have hOk:X'.Ok:=by
    subst hX;refine⟨I.ok.mod,S.kind,I.ok.glob,I.ok.blt,hCle,λx y c e1 e2=>I.ok.inj x y c (S.sub x c e1) (S.sub y c e2),λx hx=>?_,λx c z=>absurd (show false=true from z) Aj,I.ok.hd,I.ok.frames,.inl rfl,
      λb hb=>⟨(below b (hfps b hb)).1,λx c e=>(hf b hb).2.2.2.2.1 x c (S.sub x c e)⟩,I.bs,Cp I.ok.bsz I.sz,λb o e hb=>?_,λb hb z=>?_,I.stack,I.stkFree⟩
    · rcases iB (env:=X.env) (names:=scope.names) (x:=x) hx with h|h
      · exact S.has x h
      · exact absurd rfl (S.nocell _ (Dd h))
    · rcases (hf b hb).2.2.2.1 with z|z
      · exact I.ok.noex b o e z
      · exact absurd (Bf (Ap e) (Cp I.ok.bsz z)) (Eg _)
    · rcases List.mem_cons.mp (I.stkSub b z)with z|z
      · exact(hf b hb).2.1 z
      · exact(hf b hb).2.2.1 z
  have hI0:Inv X' [] (kJ own.length cap σ) (upd H2 s2.heap.objs.size (.lst [])) {s2 with heap:=h₁,toks:=s2.toks+([]:List (Str×Value)).length}:=by
    subst hX;refine⟨hOk,rfl,I.bare,Un.laid old (Am _) (hfree _ (Am _)),⟨_,hns₁,λi x v e1 e2 e3=>?_⟩,λx c e=>?_,?_,λx c e=>?_,λp hp=>absurd (show p∈([]:List (Addr×Obj))from hp) (by simp),?_,?_⟩
    · obtain⟨p,hp,rfl,hσ⟩:=aCk rfl e1 e2
      obtain⟨c1,c2,c3⟩:=S.cap p hp;obtain⟨m,hn,hl⟩:=I.loc;obtain⟨u,r,l⟩:=hl p.2 p.1 v c1 hσ (.inr (.inl c3));refine⟨u,r,.inr ⟨.inl (gG I.ok.kind c2 c3),?_⟩⟩;obtain⟨c,hcl⟩:=S.has _ c2;refine⟨c,hcl,?_⟩;rcases l with ⟨k,_⟩|⟨_,c',e,z⟩
      · have k':X.env.scope.names.lookup p.1=some .local:=k
        rw [c3]at k';cases k'
      · have:=S.sub _ _ hcl
        rw [e]at this;cases this;obtain⟨o,ho,hd⟩:=z;exact⟨o,old _ _ ho,hd⟩
    · obtain⟨v,o,ho,hd⟩:=I.cell x c (S.sub x c e)
      exact⟨v,o,old _ _ ho,hd⟩
    · show upd H2 s2.heap.objs.size (.lst []) G2.objs.size=none
      rw [aM (Cy hDC)];exact hfree _ hCle
    · have e':=S.sub x c e
      obtain⟨v,o,ho,hd⟩:=I.cell x c e';rw [aM (below c (Ap ho)).2];exact I.freeC x c e'
    · exact I.hok.laid old (Am _) ⟨Bb _,[],_,.nil,hacc⟩
    · show(kJ own.length cap σ).length=(eE own cap).length
      unfold kJ eE;simp
  have hP:X'.prog=X.prog:=by subst hX;rfl
  have hw:X'.w=X.w:=by subst hX;rfl
  have hK:X'.K=X.K:=by subst hX;rfl
  have hA:X'.A=X.A:=by subst hX;rfl
  have hcalm:X'.calm=true:=by subst hX;exact hc
  have hxe:X'.xe=λ_ _=>False:=by subst hX;rfl
  have henv:X'.env=compEnvC scope cl G2.objs.size X.env:=by subst hX;rfl
  have hbase:∀{σ' H' s'},Inv X' [] σ' H' s'->Un (frs X.stack) fp H2 H' s2.heap s'.heap/\s'.os=s2.os:=λ{σ' H' s'} J=>by subst hX;exact⟨J.base,J.os⟩
  have hg':PG X' tg g:=by subst hX;exact hg _ _ _ _
  have he':PE X' elt te:=by subst hX;exact he _ _ _ _
  have stat:∀{H':Hp},(∀b∈fp,H' b=none)->∀b∈fp,aBj X' [] H' b:=λ{H'} hn b hb=>by
    subst hX;refine⟨hn b hb,(below b (hfps b hb)).1,λz=>?_,.inl hb,λx c e=>(hf b hb).2.2.2.2.1 x c (S.sub x c e),λp hp=>absurd (show p∈([]:List (Addr×Obj))from hp) (by simp)⟩;rcases List.mem_cons.mp (I.stkSub b z)with z|z
    · exact(hf b hb).2.1 z
    · exact(hf b hb).2.2.1 z
  have back:∀{σ' H' s'},Inv X' [] σ' H' s'->Q (.ref s2.heap.objs.size) H'->RR (.ref s2.heap.objs.size) G2.objs.size (.ok .next) s':=λ{σ' H' s'} J q=>by
    obtain⟨u,ho⟩:=hbase J;have hcf:∀b∈fp,(b∈X.ex∨X.s₀.heap.objs.size<=b)/\b≠X.env.locals/\(∀x c,X.env.cells.lookup x=some c->c≠b)/\∀p∈X.pn++pins,p.1≠b:=λb hb=>by
      obtain⟨f0,f1,f2,f3,f4,f5⟩:=hf b hb;exact⟨f3,f1,f4,f5⟩
    have hCn:H' G2.objs.size=none:=by have:=J.free;rw [henv]at this;exact this
    have hok':HOk X.prog X.w H' s'.heap:=by have:=J.hok;rw [hP,hw]at this;exact this
    obtain⟨m,hm,_⟩:=J.loc;rw [henv]at hm;refine hRR _ H' s' m hCle hm hCn (I.call' ho u hok' J.bare hcf) (λh' hs=>?_) q;have kn:∀b o,s2.heap.get? b=some o->h'.get? b=s'.heap.get? b:=λb o e=>hs.2 b (below b (Ap e)).1;refine I.call' (s':={s' with heap:=h'}) ho ⟨λb o e n hb hx=>(kn b o e).trans (u.keep b o e n hb hx),λb o e n hb hx=>?_,u.free,λb o e hx=>?_,u.tups,u.frzs,u.tbls⟩ (λb ob e=>?_) J.bare hcf
    · obtain⟨sl,e1⟩:=u.slot b o e n hb hx
      exact⟨sl,(kn b o e).trans e1⟩
    · obtain⟨o',e1⟩:=u.there b o e hx
      exact⟨o',(kn b o e).trans e1⟩
    · refine(hok' b ob e).stay (λc w' hc q=>(hs.2 c ?_).trans q) (λ_ q=>q) λ_ _ q=>q
      rintro rfl;rcases hc with rfl|hc
      · rw [hCn]at e;cases e
      · rw [hCn]at hc;cases hc
  have loop:∀s₃:Shared,s₃={s2 with heap:=h₁,toks:=s2.toks+([]:List (Str×Value)).length}->
      codeAny (model X.prog X.w) X.A (.compLoop (.ListComp elt [⟨tg,iter,[],0⟩] scope pos) 0 (.ref it) (.ref s2.heap.objs.size) (compEnvC scope cl G2.objs.size X.env))
        (RR (.ref s2.heap.objs.size) G2.objs.size) s₃:=by
    rintro s₃ rfl;obtain⟨m0,w0⟩:=w0;refine aEh (λn s'=>∃i σ' H',Inv X' [] σ' H' s'/\tn i s'.heap/\(∀b∈fp,H' b=none)/\W i n σ' H') ?_ m0
      ⟨0,_,_,hI0,T.keep _ _ _ st λb hb o e=>old b o e,λb hb=>?_,w0⟩
    · rintro n s3 ⟨i,σ3,H3,I3,st3,fr3,w3⟩
      rcases turn i n σ3 H3 w3 with ⟨stop,qn⟩|⟨go,step⟩
      · have d:=T.done X' hP hw hK hcalm i [] s3 σ3 H3 (λ_ _=>False) I3 (stat fr3) st3 stop
        rw [hA]at d;refine thn d λr s4 ⟨hr,I4⟩=>?_;subst hr;exact back I4 qn
      · have d:=T.item X' hP hw hK hcalm i [] s3 σ3 H3 (λ_ _=>False) I3 (stat fr3) st3 go
        rw [hA]at d;refine thn d λr s4 ⟨u,hr,h4⟩=>?_;subst hr;refine thn h4 λ_ s5 ⟨x,H5,I5,r5,y5,st5,fr5⟩=>?_;have I5':=I5.pinned (stat fr5) (T.obj _ _ st5);have d2:=hg' _ s5 σ3 H5 x u _ I5' r5 (step x H5 y5);rw [hP,hw,hA,hxe,henv]at d2;refine thn d2 λ_ s6 ⟨σ6,H6,I6,q6⟩=>?_;have d3:=he' _ s6 σ6 H6 _ I6 q6;rw [hP,hw,hA,hxe,henv]at d3;refine thn d3 λy7 s7 ⟨v7,H7,I7,r7,ys,e7,l7,m',hm,w7⟩=>?_;have d4:=lW (X:=X') _ s7 σ6 H7 (.ref s2.heap.objs.size) [v7] (.ref s2.heap.objs.size) [y7] (λ_ H8=>W (i+1) m' σ6 H8) I7 rfl (.cons r7 .nil) ⟨_,ys,v7,rfl,rfl,e7,l7,w7⟩;rw [hP,hw,hA,hxe]at d4;refine thn d4 λ_ s8 ⟨v8,H8,I8,_,w8⟩=>?_;refine⟨m',hm,i+1,σ6,H8,I8.unpinned,T.keep _ _ _ st5 λb hb o e=>(I8.pin (b,o) (Ba _ (Ba _ (fL hb e)))).1,λb hb=>?_,w8⟩;obtain⟨o,e,d⟩:=T.obj _ _ st5 b hb;exact(I8.pin (b,o) (Ba _ (Ba _ (fL hb e)))).2.1
    · rw [aM (below b (hfps b hb)).2]
      exact(hf b hb).1
  exact Qc (loop _ rfl) (T.self _ 0 _ _ _ (T.keep _ _ _ st λb hb o e=>old b o e) (loop _ rfl))
def aI7 {own:List Str} {cap:List (Str×Nat)}
  (S:iH X scope cap cl) (hc:X.calm=true) (hi:PI X tg iter wi)
  (hg:∀C s2 H2 fp,PG (bR X (eE own cap) scope cl C s2 H2 fp) tg g) (he:∀C s2 H2 fp,PE (bR X (eE own cap) scope cl C s2 H2 fp) elt te)
  (hs:∀x,foldedSetIterable iter X.env x=pure x:=by intro _;rfl):PE X (.ListComp elt [⟨tg,iter,[],0⟩] scope pos) (aBv own.length cap wi g te):=by
 intro pins s σ H Q I h;rw [eval_ListComp];refine Iz (use:=none) rfl hs S.clos S.kind S.names (thn (hi pins s σ H _ I h) λv s1 h1=>thn h1 λitv s2 h2=>?_);obtain⟨it,fp,tn,J,H2,e,I2,T,st2,f2,rd⟩:=h2;subst e;obtain⟨W,w0,turn⟩:=rd _ (I2.hok.fresh (Am _));exact aAy (RR:=λacc C=>compPost (model X.prog X.w) X.A X.xe none (EP X pins σ Q) acc C) S hc I2 T st2 f2 hg he W w0 turn
  λC H' s' m _ hm _ _ hback q=>⟨m,hm,λh' hs'=>⟨.ref s2.heap.objs.size,H',hback h' hs',rfl,q⟩⟩
def aIj {own:List Str} {cap:List (Str×Nat)} {pos spos py:Pos}
  (hN:X.N.Nodup) (hi':X.N[i]? =some x) (hx:Loc X.env.scope x) (S:iH X scope cap cl) (hc:X.calm=true) (hi:PI X tg iter wi)
  (hg:∀C s2 H2 fp,PG (bR X (eE own cap) scope cl C s2 H2 fp) tg g) (he:∀C s2 H2 fp,PE (bR X (eE own cap) scope cl C s2 H2 fp) elt te)
  (hsw:swapsWith (.ListComp elt [⟨tg,iter,[],0⟩] scope pos) (some (.Name x py)) spos.line X.env=pure true:=by rfl)
  (hs:∀x,foldedSetIterable iter X.env x=pure x:=by intro _;rfl) (hf:X.fn x=true∨X.env.scope.names.lookup x=some .local:=by first|exact .inl rfl|exact .inr rfl|assumption):
  PS X (.Assign [.Name x py] (.ListComp elt [⟨tg,iter,[],0⟩] scope pos) spos) (aSh (aBv own.length cap wi g te) (vQ i)):=by
 intro pins s σ H D I h;rw [exec_Assign_Name_used _ _ _ _ hsw];refine Aa (Jf (Aa ?_));show wpAny _ X.A (do let _<-comprehension (.ListComp elt [⟨tg,iter,[],0⟩] scope pos) scope X.env _ (newList []) false (eval iter X.env) (some (assign (.Name x py) X.env))) _ _ s;refine Aa (Cq (Iz (use:=some (assign (.Name x py) X.env)) (Q:=λ_ s'=>SP X pins D .next s') rfl hs S.clos S.kind S.names
  (thn (hi pins s σ H _ I h) λv s1 h1=>thn h1 λitv s2 h2=>?_)) (λ_ s' hq=>Af (Af hq)) λ_ _ e=>e)
 obtain⟨it,fp,tn,J,H2,e,I2,T,st2,f2,rd⟩:=h2;subst e;obtain⟨W,w0,turn⟩:=rd _ (I2.hok.fresh (Am _));refine aAy (Q:=λx H1=>vQ i x σ H1 D.nx) (RR:=λacc C=>compPost (model X.prog X.w) X.A X.xe (some (assign (.Name x py) X.env)) (λ_ s'=>SP X pins D .next s') acc C) S hc I2 T st2 f2 hg he W w0 turn
  λC H' s' m hCle hm hCn I' hback q=>?_
 refine Sr (aBx (v:= .ref s2.heap.objs.size) I' hN hi' hx rfl (λs'' I'' ⟨a,hsa,ha⟩=>?_) hf);have hCa:C≠a:=by
  rcases ha with z|z
  ·rw [z];exact Cy (qQ I2.lt hCle)
  ·obtain⟨v,q'⟩:=I2.cell x a z;exact Cy (qQ q'.lt hCle)
 refine⟨m,hm.sameBut hsa hCa,λh' hs'=>⟨_,H',?_,q⟩⟩;have hC0:X.s₀.heap.objs.size<=C:=Cp I2.sz hCle;have hnp:∀p∈X.pn++pins,p.1≠C:=λp hp=>qQ (Ap (I2.pin p hp).1) hCle;have hcl:∀y c,X.env.cells.lookup y=some c->c≠C:=λy c e=>by
  obtain⟨v,q'⟩:=I2.cell y c e;exact qQ q'.lt hCle
 have hL:C≠X.env.locals:=Cy (qQ I2.lt hCle);exact I''.turned (t':=s''.toks) (it:=C) (λb o hb e=>(hs'.2 b hb).trans e) hCn hL (.inr hC0) hcl hnp
section
variable {prog:Program} {w:World} {A:Around} {R:Result->Shared->Prop} {s:Shared}
def aA8 {elt target iter c:Expr} {it acc:Value} {env:Env} (I:Nat->Shared->Prop)
  (turn:∀n s,I n s->wpAny (model prog w) A (pyNext it) (λr s₁=>match r with
   |none=>R (.ok .next) s₁
   |some v=>wpAny (model prog w) A (letOwnedTupleGo target it v) (λ_ s₁'=>wpAny (model prog w) A (assign target env v) (λ_ s₂=>wpAny (model prog w) A (isTrue c env (eval c env)) (λok s₂'=>if ok=true then wpAny (model prog w) A (eval elt env) (λx s₃=>
     wpAny (model prog w) A (call (.builtin "list.append") [acc,x]) (λ_ s₄=>∃m,m<n/\I m s₄) (λ_ _=>False) s₃) (λ_ _=>False) s₂' else∃m,m<n/\I m s₂') (λ_ _=>False) s₂) (λ_ _=>False) s₁') (λ_ _=>False) s₁) (λ_ _=>False) s)
  (n:Nat) (h:I n s):
  codeAny (model prog w) A (.compLoop (.ListComp elt [⟨target,iter,[c],0⟩] scope pos) 0 it acc env) R s:=by
 refine codeAny_loop rfl I (λn s hI=>?_) n h;show wpAny _ _ ((compTurn (.ListComp elt [⟨target,iter,[c],0⟩] scope pos) 0 it acc env).onRaise (λx=>do noteFrame x env;theTreesLotGoes x)) _ _ s;refine wpAny_noted ?_;rw [compTurn_list];refine Aa (Jf (Aa (Cq (turn n s hI) (λr s₁ h₁=>?_) λ_ _ h'=>h'.elim)));cases r with
 |none=>exact Af h₁
 |some v=>
  refine Aa (Cq h₁ (λ_ s₁' h₁'=>?_) λ_ _ h'=>h'.elim);refine Aa (Cq h₁' (λ_ s₂ h₂=>?_) λ_ _ h'=>h'.elim);refine Aa (wpAny_tests_one (Cq h₂ (λokb s₃ h₃=>?_) λ_ _ h'=>h'.elim));cases okb with
  |false=>exact Af ⟨rfl,h₃⟩
  |true=>exact Aa (Aa (Cq h₃ (λx s₄ h₄=>Aa (Cq h₄ (λ_ s₅ h₅=>Af (Af ⟨rfl,h₅⟩)) λ_ _ h'=>h'.elim)) λ_ _ h'=>h'.elim))
end
def aVk (J:It) (D:Addr) (g:TG) (tc:TT) (te:TE) (Q:VK) (σ:St) (H:Hp):Prop:=∃W:Nat->Nat->St->Hp->Prop,
 (∃m,W 0 m σ H)/\∀i m σc H2,W i m σc H2->
  (J.stop i H2/\Q (.ref D) H2)∨(J.go i H2/\∀x H3,J.yld i H2 x H3->g x σc H3 λσ4 H4=>tc σ4 H4 λok H4'=>if ok=true then te σ4 H4' λy H5=>∃ys,H5 D=some (.lst ys)/\ys.length<sizeLine/\∃m',m'<m/\W (i+1) m' σ4 (upd H5 D (.lst (ys++[y])))else∃m',m'<m/\W (i+1) m' σ4 H4')
def aG3 (no:Nat) (cap:List (Str×Nat)) (wi:TI) (g:TG) (tc:TT) (te:TE):TE:=λσ H Q=>wi σ H λJ H1=>∀D,H1 D=none->aVk J D g tc te Q (kJ no cap σ) (upd H1 D (.lst []))
def aE7 {elt iter tg ci:Expr} {own:List Str} {cap:List (Str×Nat)} {J:It} {it:Addr}
    (S:iH X scope cap cl) (hc:X.calm=true) (I:Inv X pins σ H2 s2) (T:Turn X.prog X.w X.K tg J fp it tn) (st:tn 0 s2.heap) (hf:∀b∈fp,aBj X pins H2 b)
    (hg:∀C s2 H2 fp,PG (bR X (eE own cap) scope cl C s2 H2 fp) tg g) (htc:∀C s2 H2 fp,PT (bR X (eE own cap) scope cl C s2 H2 fp) ci tc) (he:∀C s2 H2 fp,PE (bR X (eE own cap) scope cl C s2 H2 fp) elt te)
    (W:Nat->Nat->St->Hp->Prop) (w0:∃m,W 0 m (kJ own.length cap σ) (upd H2 s2.heap.objs.size (.lst [])))
    (turn:∀i m σc H3,W i m σc H3->(J.stop i H3/\Q (.ref s2.heap.objs.size) H3)∨(J.go i H3/\∀x H4,J.yld i H3 x H4->g x σc H4 λσ5 H5=>tc σ5 H5 λok H5'=>if ok=true then te σ5 H5' λy H6=>∃ys,H6 s2.heap.objs.size=some (.lst ys)/\ys.length<sizeLine/\∃m',m'<m/\W (i+1) m' σ5 (upd H6 s2.heap.objs.size (.lst (ys++[y])))else∃m',m'<m/\W (i+1) m' σ5 H5'))
    (hRR:∀C H' s' m,s2.heap.objs.size<=C->s'.heap.Ns C m->H' C=none->Inv X pins σ H' s'->(∀h',Cw C s'.heap h'->Inv X pins σ H' {s' with heap:=h'})->Q (.ref s2.heap.objs.size) H'->RR (.ref s2.heap.objs.size) C (.ok .next) s')
 :
    wpAny (model X.prog X.w) X.A (newList []) (λacc s₃=>wpAny (model X.prog X.w) X.A (newFunctionEnv scope X.env.globals cl [] X.env.qual none .none (some X.env)) (λcenv s₄=>
      codeAny (model X.prog X.w) X.A (.compStart (.ListComp elt [⟨tg,iter,[ci],0⟩] scope pos) 0 (.ref it) acc {cenv with scope:=relabel scope X.env}) (RR acc cenv.locals) s₄) E s₃) E s2:=by
  refine Cv (Qz S.nocell (by intro y hy;simp at hy) (λh₁ hns₁ hsb₁=>?_) S.kind);dsimp only at hns₁ hsb₁⊢;generalize hH2:s2.heap.push {cls:= .type "list",dict:=none,data:= .seq ([]:List Value).toArray}=G2 at hns₁ hsb₁⊢;have hC:G2.objs.size=s2.heap.objs.size+1:=by rw [<-hH2,Dk]
  have hDC:s2.heap.objs.size≠G2.objs.size:=by rw [hC];exact Ax (Ed _)
  have hCle:s2.heap.objs.size<=G2.objs.size:=by rw [hC];exact Gd _
  have below:∀b,b<s2.heap.objs.size->b≠G2.objs.size/\b≠s2.heap.objs.size:=λb hb=>⟨by rw [hC];exact Ax (Ei hb),Ax hb⟩;have old:∀b o,s2.heap.get? b=some o->h₁.get? b=some o:=λb o e=>hsb₁.extBut b o (below b (Ap e)).1 (Ai _ (hH2▸Ai _ e));have hacc:h₁.get? s2.heap.objs.size=some {cls:= .type "list",dict:=none,data:= .seq ([]:List Value).toArray}:=hsb₁.extBut _ _ hDC (Ai _ (hH2▸Ar _ rfl));have hfps:∀b∈fp,b<s2.heap.objs.size:=λb hb=>by
    obtain⟨o,e,_⟩:=T.obj _ _ st b hb;exact Ap e
  have hfree:∀b,s2.heap.objs.size<=b->H2 b=none:=λb hb=>I.hok.fresh hb;generalize hX:bR X (eE own cap) scope cl G2.objs.size s2 H2 fp=X';have hOk:X'.Ok:=by
    subst hX;refine⟨I.ok.mod,S.kind,I.ok.glob,I.ok.blt,hCle,λx y c e1 e2=>I.ok.inj x y c (S.sub x c e1) (S.sub y c e2),λx hx=>?_,λx c z=>absurd (show false=true from z) Aj,I.ok.hd,I.ok.frames,.inl rfl,
      λb hb=>⟨(below b (hfps b hb)).1,λx c e=>(hf b hb).2.2.2.2.1 x c (S.sub x c e)⟩,I.bs,Cp I.ok.bsz I.sz,λb o e hb=>?_,λb hb z=>?_,I.stack,I.stkFree⟩
    · rcases iB (env:=X.env) (names:=scope.names) (x:=x) hx with h|h
      · exact S.has x h
      · exact absurd rfl (S.nocell _ (Dd h))
    · rcases (hf b hb).2.2.2.1 with z|z
      · exact I.ok.noex b o e z
      · exact absurd (Bf (Ap e) (Cp I.ok.bsz z)) (Eg _)
    · rcases List.mem_cons.mp (I.stkSub b z)with z|z
      · exact(hf b hb).2.1 z
      · exact(hf b hb).2.2.1 z
  have hI0:Inv X' [] (kJ own.length cap σ) (upd H2 s2.heap.objs.size (.lst [])) {s2 with heap:=h₁,toks:=s2.toks+([]:List (Str×Value)).length}:=by
    subst hX;refine⟨hOk,rfl,I.bare,Un.laid old (Am _) (hfree _ (Am _)),⟨_,hns₁,λi x v e1 e2 e3=>?_⟩,λx c e=>?_,?_,λx c e=>?_,λp hp=>absurd (show p∈([]:List (Addr×Obj))from hp) (by simp),?_,?_⟩
    · obtain⟨p,hp,rfl,hσ⟩:=aCk rfl e1 e2
      obtain⟨c1,c2,c3⟩:=S.cap p hp;obtain⟨m,hn,hl⟩:=I.loc;obtain⟨u,r,l⟩:=hl p.2 p.1 v c1 hσ (.inr (.inl c3));refine⟨u,r,.inr ⟨.inl (gG I.ok.kind c2 c3),?_⟩⟩;obtain⟨c,hcl⟩:=S.has _ c2;refine⟨c,hcl,?_⟩;rcases l with ⟨k,_⟩|⟨_,c',e,z⟩
      · have k':X.env.scope.names.lookup p.1=some .local:=k
        rw [c3]at k';cases k'
      · have:=S.sub _ _ hcl
        rw [e]at this;cases this;obtain⟨o,ho,hd⟩:=z;exact⟨o,old _ _ ho,hd⟩
    · obtain⟨v,o,ho,hd⟩:=I.cell x c (S.sub x c e)
      exact⟨v,o,old _ _ ho,hd⟩
    · show upd H2 s2.heap.objs.size (.lst []) G2.objs.size=none
      rw [aM (Cy hDC)];exact hfree _ hCle
    · have e':=S.sub x c e
      obtain⟨v,o,ho,hd⟩:=I.cell x c e';rw [aM (below c (Ap ho)).2];exact I.freeC x c e'
    · exact I.hok.laid old (Am _) ⟨Bb _,[],_,.nil,hacc⟩
    · show(kJ own.length cap σ).length=(eE own cap).length
      unfold kJ eE;simp
  have hP:X'.prog=X.prog:=by subst hX;rfl
  have hw:X'.w=X.w:=by subst hX;rfl
  have hK:X'.K=X.K:=by subst hX;rfl
  have hA:X'.A=X.A:=by subst hX;rfl
  have hcalm:X'.calm=true:=by subst hX;exact hc
  have hxe:X'.xe=λ_ _=>False:=by subst hX;rfl
  have henv:X'.env=compEnvC scope cl G2.objs.size X.env:=by subst hX;rfl
  have hbase:∀{σ' H' s'},Inv X' [] σ' H' s'->Un (frs X.stack) fp H2 H' s2.heap s'.heap/\s'.os=s2.os:=λ{σ' H' s'} J=>by subst hX;exact⟨J.base,J.os⟩
  have hg':PG X' tg g:=by subst hX;exact hg _ _ _ _
  have he':PE X' elt te:=by subst hX;exact he _ _ _ _
  have htc':PT X' ci tc:=by subst hX;exact htc _ _ _ _
  have stat:∀{H':Hp},(∀b∈fp,H' b=none)->∀b∈fp,aBj X' [] H' b:=λ{H'} hn b hb=>by
    subst hX;refine⟨hn b hb,(below b (hfps b hb)).1,λz=>?_,.inl hb,λx c e=>(hf b hb).2.2.2.2.1 x c (S.sub x c e),λp hp=>absurd (show p∈([]:List (Addr×Obj))from hp) (by simp)⟩;rcases List.mem_cons.mp (I.stkSub b z)with z|z
    · exact(hf b hb).2.1 z
    · exact(hf b hb).2.2.1 z
  have back:∀{σ' H' s'},Inv X' [] σ' H' s'->Q (.ref s2.heap.objs.size) H'->RR (.ref s2.heap.objs.size) G2.objs.size (.ok .next) s':=λ{σ' H' s'} J q=>by
    obtain⟨u,ho⟩:=hbase J;have hcf:∀b∈fp,(b∈X.ex∨X.s₀.heap.objs.size<=b)/\b≠X.env.locals/\(∀x c,X.env.cells.lookup x=some c->c≠b)/\∀p∈X.pn++pins,p.1≠b:=λb hb=>by
      obtain⟨f0,f1,f2,f3,f4,f5⟩:=hf b hb;exact⟨f3,f1,f4,f5⟩
    have hCn:H' G2.objs.size=none:=by have:=J.free;rw [henv]at this;exact this
    have hok':HOk X.prog X.w H' s'.heap:=by have:=J.hok;rw [hP,hw]at this;exact this
    obtain⟨m,hm,_⟩:=J.loc;rw [henv]at hm;refine hRR _ H' s' m hCle hm hCn (I.call' ho u hok' J.bare hcf) (λh' hs=>?_) q;have kn:∀b o,s2.heap.get? b=some o->h'.get? b=s'.heap.get? b:=λb o e=>hs.2 b (below b (Ap e)).1;refine I.call' (s':={s' with heap:=h'}) ho ⟨λb o e n hb hx=>(kn b o e).trans (u.keep b o e n hb hx),λb o e n hb hx=>?_,u.free,λb o e hx=>?_,u.tups,u.frzs,u.tbls⟩ (λb ob e=>?_) J.bare hcf
    · obtain⟨sl,e1⟩:=u.slot b o e n hb hx
      exact⟨sl,(kn b o e).trans e1⟩
    · obtain⟨o',e1⟩:=u.there b o e hx
      exact⟨o',(kn b o e).trans e1⟩
    · refine(hok' b ob e).stay (λc w' hc q=>(hs.2 c ?_).trans q) (λ_ q=>q) λ_ _ q=>q
      rintro rfl;rcases hc with rfl|hc
      · rw [hCn]at e;cases e
      · rw [hCn]at hc;cases hc
  have loop:∀s₃:Shared,s₃={s2 with heap:=h₁,toks:=s2.toks+([]:List (Str×Value)).length}->
      codeAny (model X.prog X.w) X.A (.compLoop (.ListComp elt [⟨tg,iter,[ci],0⟩] scope pos) 0 (.ref it) (.ref s2.heap.objs.size) (compEnvC scope cl G2.objs.size X.env))
        (RR (.ref s2.heap.objs.size) G2.objs.size) s₃:=by
    rintro s₃ rfl;obtain⟨m0,w0⟩:=w0;refine aA8 (λn s'=>∃i σ' H',Inv X' [] σ' H' s'/\tn i s'.heap/\(∀b∈fp,H' b=none)/\W i n σ' H') ?_ m0
      ⟨0,_,_,hI0,T.keep _ _ _ st λb hb o e=>old b o e,λb hb=>?_,w0⟩
    · rintro n s3 ⟨i,σ3,H3,I3,st3,fr3,w3⟩
      rcases turn i n σ3 H3 w3 with ⟨stop,qn⟩|⟨go,step⟩
      · have d:=T.done X' hP hw hK hcalm i [] s3 σ3 H3 (λ_ _=>False) I3 (stat fr3) st3 stop
        rw [hA]at d;refine thn d λr s4 ⟨hr,I4⟩=>?_;subst hr;exact back I4 qn
      · have d:=T.item X' hP hw hK hcalm i [] s3 σ3 H3 (λ_ _=>False) I3 (stat fr3) st3 go
        rw [hA]at d;refine thn d λr s4 ⟨u,hr,h4⟩=>?_;subst hr;refine thn h4 λ_ s5 ⟨x,H5,I5,r5,y5,st5,fr5⟩=>?_;have I5':=I5.pinned (stat fr5) (T.obj _ _ st5);have d2:=hg' _ s5 σ3 H5 x u _ I5' r5 (step x H5 y5);rw [hP,hw,hA,hxe,henv]at d2;refine thn d2 λ_ s6 ⟨σ6,H6,I6,q6⟩=>?_;have dt:=htc' _ s6 σ6 H6 _ I6 q6;rw [hP,hw,hA,hxe,henv]at dt;refine thn dt λokb s6' ⟨H6',I6',q6'⟩=>?_;cases okb with
        |false=>
          obtain⟨m',hm,w7⟩:=q6';refine⟨m',hm,i+1,σ6,H6',I6'.unpinned,T.keep _ _ _ st5 λb hb o e=>(I6'.pin (b,o) (Ba _ (Ba _ (fL hb e)))).1,λb hb=>?_,w7⟩;obtain⟨o,e,d⟩:=T.obj _ _ st5 b hb;exact(I6'.pin (b,o) (Ba _ (Ba _ (fL hb e)))).2.1
        |true=>
        have d3:=he' _ s6' σ6 H6' _ I6' q6';rw [hP,hw,hA,hxe,henv]at d3;refine thn d3 λy7 s7 ⟨v7,H7,I7,r7,ys,e7,l7,m',hm,w7⟩=>?_;have d4:=lW (X:=X') _ s7 σ6 H7 (.ref s2.heap.objs.size) [v7] (.ref s2.heap.objs.size) [y7] (λ_ H8=>W (i+1) m' σ6 H8) I7 rfl (.cons r7 .nil) ⟨_,ys,v7,rfl,rfl,e7,l7,w7⟩;rw [hP,hw,hA,hxe]at d4;refine thn d4 λ_ s8 ⟨v8,H8,I8,_,w8⟩=>?_;refine⟨m',hm,i+1,σ6,H8,I8.unpinned,T.keep _ _ _ st5 λb hb o e=>(I8.pin (b,o) (Ba _ (Ba _ (fL hb e)))).1,λb hb=>?_,w8⟩;obtain⟨o,e,d⟩:=T.obj _ _ st5 b hb;exact(I8.pin (b,o) (Ba _ (Ba _ (fL hb e)))).2.1
    · rw [aM (below b (hfps b hb)).2]
      exact(hf b hb).1
  exact Qc (loop _ rfl) (T.self _ 0 _ _ _ (T.keep _ _ _ st λb hb o e=>old b o e) (loop _ rfl))
def aPp {elt iter tg ci:Expr} {own:List Str} {cap:List (Str×Nat)}
  (S:iH X scope cap cl) (hc:X.calm=true) (hi:PI X tg iter wi)
  (hg:∀C s2 H2 fp,PG (bR X (eE own cap) scope cl C s2 H2 fp) tg g) (htc:∀C s2 H2 fp,PT (bR X (eE own cap) scope cl C s2 H2 fp) ci tc) (he:∀C s2 H2 fp,PE (bR X (eE own cap) scope cl C s2 H2 fp) elt te)
  (hs:∀x,foldedSetIterable iter X.env x=pure x:=by intro _;rfl):PE X (.ListComp elt [⟨tg,iter,[ci],0⟩] scope pos) (aG3 own.length cap wi g tc te):=by
 intro pins s σ H Q I h;rw [eval_ListComp];refine Iz (use:=none) rfl hs S.clos S.kind S.names (thn (hi pins s σ H _ I h) λv s1 h1=>thn h1 λitv s2 h2=>?_);obtain⟨it,fp,tn,J,H2,e,I2,T,st2,f2,rd⟩:=h2;subst e;obtain⟨W,w0,turn⟩:=rd _ (I2.hok.fresh (Am _));exact aE7 (RR:=λacc C=>compPost (model X.prog X.w) X.A X.xe none (EP X pins σ Q) acc C) S hc I2 T st2 f2 hg htc he W w0 turn
  λC H' s' m _ hm _ _ hback q=>⟨m,hm,λh' hs'=>⟨.ref s2.heap.objs.size,H',hback h' hs',rfl,q⟩⟩
def Ite (K:Ac) (a:Addr):It:=
 ⟨λi H=>∃xs x,SqL K H a xs/\xs[i]? =some x,λi H y H'=>∃p x,H p=none/\y= .ref p/\H'=upd H p (.tup [.int i,x])/\∀xs,SqL K H a xs->xs[i]? =some x,λi H=>∃xs,SqL K H a xs/\xs.length<=i⟩
def aKv {w:World} {K:Ac} {es:List Expr} (a e it:Addr) (hei:e≠it):
  Turn P w K (.Tuple es k pos) (Ite K a) [e,it] e (λi h=>(∃old,IsEnum h e it ((i:Nat):Int) old)/\h.IsListIter it a i) where
 mem:=by simp
 obj:=λi h st b hb=>by
  obtain⟨⟨old,he⟩,⟨o,e1,c,d⟩⟩:=st;rcases List.mem_cons.mp hb with rfl|hb
  ·exact⟨_,he,λv z=>by
    have z':Vj _=Data.cell v:=z;cases z'⟩
  ·have e2:b=it:=by simpa using hb
   subst e2;exact⟨o,e1,λv z=>by rw [d]at z;cases z⟩
 keep:=λi h h' st k=>by
  obtain⟨⟨old,he⟩,hit⟩:=st;exact⟨⟨old,k e (by simp) _ he⟩,hit.at λo e'=>k it (by simp) o e'⟩
 item:=by
  intro X hP hw hK hc i pins s σ H E I hf st hg;subst hP hw hK;obtain⟨⟨old,he⟩,hit⟩:=st;obtain⟨xs,x,hq,hx⟩:=hg;obtain⟨its,rv,p,hz⟩:=I.list hq;obtain⟨u,hu,ru⟩:=rv.get hx;refine wpAny_pyNext_enum_item he hit p.isList (x:=u) (by simpa using hu) hei λh' heo hit' ht hz' hk=>?_;refine⟨_,rfl,wpAny_letOwnedTupleGo_enum heo λh'' he'' hs''=>?_⟩;have hT:H s.heap.objs.size=none:=I.hok.fresh (Am _);have heT:e≠s.heap.objs.size:=Ax (Ap he);have hfe:=hf e (by simp);have hfi:=hf it (by simp);have keep:∀b o,b≠e->b≠it->s.heap.get? b=some o->h''.get? b=some o:=λb o h1 h2 h3=>(hs''.2 b h1).trans (hk b o h1 h2 h3);have keepc:∀b o,b∉[e,it]->s.heap.get? b=some o->h''.get? b=some o:=λb o h1 h3=>keep b o (λz=>h1 (by simp [z])) (λz=>h1 (by simp [z])) h3;have tup:=(hs''.2 _ (Cy heT)).trans ht;have nf:∀b u,H b=some u->b≠e/\b≠it:=λb u q=>⟨λz=>(by rw [z,hfe.1]at q;cases q),λz=>(by rw [z,hfi.1]at q;cases q)⟩;have nT:∀b u,H b=some u->b≠s.heap.objs.size:=λb u q=>aQ q hT;have iti:it≠s.heap.objs.size:=by obtain⟨o,e1,_⟩:=hit;exact Ax (Ap e1)
  refine⟨.ref s.heap.objs.size,upd H s.heap.objs.size (.tup [.int i,x]),?_,rfl,⟨_,x,hT,rfl,rfl,λys hy=>by rw [I.list_inj hy hq];exact hx⟩,⟨⟨_,he''⟩,?_⟩,λb hb=>?_⟩
  ·show Inv X pins σ (upd H s.heap.objs.size (.tup [.int i,x])) {s with heap:=h'',gens:=s.gens,drawn:=s.drawn,toks:=s.toks+1};refine Inv.step (s:=s) (h':=h'') (t':=s.toks+1) (g':=s.gens) (d':=s.drawn) (ch:=[e,it]) I (λb hb=>?_) (λb o _ _ hc' q _=>keepc b o hc' q) (λb o _ _ hc' q _=>⟨o.slots,keepc b o hc' q⟩) (λb o _ q n=>by rw [aM (Ax (Ap q))];exact n)
    (λb o hc' q=>⟨o,keepc b o hc' q⟩) (λb ys q=>by rw [aM (nT b _ q)];exact q) (λb o' ys q=>by rw [aM (nT b _ q)];exact q) (λb ps q=>⟨#[],by rw [aM (nT b _ q),q];simp⟩) (λm hm=>?_) (λb ob q=>?_) I.bare
   ·rcases List.mem_cons.mp hb with rfl|hb
    ·exact⟨hfe.2.2.2.1,hfe.2.1,hfe.2.2.2.2.1,hfe.2.2.2.2.2⟩
    ·have e2:b=it:=by simpa using hb
     subst e2;exact⟨hfi.2.2.2.1,hfi.2.1,hfi.2.2.2.2.1,hfi.2.2.2.2.2⟩
   ·obtain⟨o,es,ep,ho,r⟩:=hm;exact⟨o,es,ep,keep _ o (Cy hfe.2.1) (Cy hfi.2.1) ho,r⟩
   ·by_cases hb:b=s.heap.objs.size
    ·subst hb;rw [aJ]at q;cases q;exact⟨show 2<=sizeLine by decide,[.int i s.toks,u],.cons ⟨_,rfl⟩ (.cons ru .nil),⟨_,tup,rfl,_,rfl⟩⟩
    ·rw [aM hb]at q;refine(I.hok b ob q).stay (λc w' hc' q'=>?_) (λc q'=>by rw [aM (nT c _ q')];exact q') (λc ys q'=>by rw [aM (nT c _ q')];exact q');have hne:c≠e/\c≠it:=by
      rcases hc' with rfl|hc'
      ·exact nf _ _ q
      ·exact nf _ _ hc'
     exact keep c w' hne.1 hne.2 q'
  ·exact hit'.at λo e'=>(hs''.2 it (Cy hei)).trans e'
  ·rcases List.mem_cons.mp hb with rfl|hb
   ·rw [aM heT];exact hfe.1
   ·have e2:b=it:=by simpa using hb
    subst e2;rw [aM iti];exact hfi.1
 done:=by
  intro X hP hw hK hc i pins s σ H E I hf st hg;subst hP hw hK;obtain⟨⟨old,he⟩,hit⟩:=st;obtain⟨xs,hq,hx⟩:=hg;obtain⟨its,rv,p,hz⟩:=I.list hq;obtain⟨f0,f1,f2,f3,f4,f5⟩:=hf it (by simp);have hl:=rv.length;exact wpAny_pyNext_enum_end (I.ok.hd hc) he hit p.isList (by simp;omega) λh' eb=>⟨rfl,I.turned (t':=s.toks) (λb o hb q=>eb b o hb q) f0 f1 f3 f4 f5⟩
 self:=λ_ _ _ _ _ st h=>by
  obtain⟨⟨old,he⟩,hit⟩:=st;exact Sq he h
def aXd (K:Ac) (ta:TA):TI:=λσ H R=>ta σ H λvs H1=>∃a,vs=[.ref a]/\(∃xs,SqL K H1 a xs)/\R (Ite K a) H1
def aQ9 {es:List Expr} {pos':Pos} {ta:TA} {p pos:Pos} (hg:Gl X "enumerate") (hm:X.mg "enumerate"=none) (ha:PA X [a] ta) (hs:starEach [a] X.env=[(false,eval a X.env)]:=by rfl):
  PI X (.Tuple es k pos') (.Call (.Name "enumerate" p) [a] [] pos) (aXd X.K ta):=by
 intro pins s σ H R I h;refine Call_ (uK I hg hm boot_enumerate (Ex (thn (ha pos pins s σ H _ I h) λus s1 ⟨vs,H1,I1,r1,q1⟩=>?_) hs rfl));obtain⟨l,e,⟨xs,hq⟩,q⟩:=q1;subst e;cases r1 with
 |cons r rr=>
  cases rr;cases r;obtain⟨its,rv,pl,hz⟩:=I1.list hq;refine call_enumerate_list pl.isList λh' he hit hz' hk=>Sq he ?_;have I2:Inv X pins σ H1 {s1 with heap:=h'}:=I1.kept (t':=s1.toks) λb o e=>hk b o e;have hne:s1.heap.objs.size+1≠s1.heap.objs.size:=Nat.succ_ne_self _;refine⟨s1.heap.objs.size+1,[s1.heap.objs.size+1,s1.heap.objs.size],_,_,H1,rfl,I2,aKv l _ _ hne,⟨⟨_,he⟩,hit⟩,λb hb=>?_,q⟩;rcases List.mem_cons.mp hb with rfl|hb
  ·exact I1.fpOk (Gd _) (I1.hok.fresh (Gd _))
  ·have e2:b=s1.heap.objs.size:=by simpa using hb
   subst e2;exact I1.fpOk (Am _) (I1.hok.fresh (Am _))
def xR:eF X (.builtin "isinstance") (λxs H Q=>∃x n t b,xs=[x,.ty n]/\uX X.K H x t/\Lg X.K t (.type n)=some b/\Q (.bl b) H):=by
 intro pins s σ H xs us Q I r h;obtain⟨x,n,t,b,rfl,ty,e,q⟩:=h;obtain⟨u,w',rfl,ru,rw'⟩:=vals2 r;cases rw';exact aKa I ru ty e λtk=>⟨.bl b,H,I.tok tk,rfl,q⟩
def aOy:OpR X (binaryOp .Add) (λx y H Q=>∃a b ys,x= .ref a/\y= .ref b/\SqT X.K H a []/\SqT X.K H b ys/\Q (.ref b) H):=by
 intro pins s σ H x y v u Q I rx ry h;obtain⟨a,b,ys,rfl,rfl,ha,hb,q⟩:=h;cases rx;cases ry;obtain⟨its,r1,p1,_⟩:=I.tuple ha;obtain⟨its2,r2,p2,_⟩:=I.tuple hb;cases r1;obtain⟨⟨cls,dd,data,sl⟩,ho,hc,n,hd⟩:=id p1;obtain⟨⟨cls2,dd2,data2,sl2⟩,ho2,hc2,n2,hd2⟩:=id p2;simp only at hc hd hc2 hd2;subst hc hd hc2 hd2;exact Qp ⟨_,ho,rfl⟩ ⟨_,ho2,rfl⟩ Mv Pl Ii Ic (Ht _ _)
   (tuple_addW0 a b _ _ n n2 dd dd2 sl sl2 (by simp)) ⟨ho,ho2,⟨.ref b,H,I,rfl,q⟩⟩
def aF1 {x:V} (h:jG x=true):eqV x x=true:=by
 cases x<;>first|rfl|exact beq_self_eq_true _|(exact absurd (show false=true from h) Aj)
def rO (e:Nat->Bool) (n:Nat):(Bq (n+1)).all e=(e 0 && (Bq n).all λj=>e (j+1)):=by
 rw [Ob,Kf,List.all_map];rfl
section
variable {X:Cx} {pins:List (Addr×Obj)} {σ:St} {H:Hp} {s:Shared} {A:Around}
end
theorem sI (env:Env):∀(names:List (Str×NameKind)) (acc:List (Str×Addr)),(∀y∈names,y.2= .free->∃c,env.cells.lookup y.1=some c)->(∀x c,acc.lookup x=some c->env.cells.lookup x=some c)->
  ∃cl,(forIn names acc (λ(x:Str×NameKind) (cs:List (Str×Addr))=>(if(x.2==Dq)=true then(do let a<-cellOf env x.1;pure (Pb ((x.1,a)::cs)):Sem _)else pure (Pb cs))):Sem (List (Str×Addr)))=pure cl/\
   (∀x c,cl.lookup x=some c->env.cells.lookup x=some c)/\(∀x,(∃c,acc.lookup x=some c)∨(x,Dq)∈names->∃c,cl.lookup x=some c)
 | [],acc,_,h2=>⟨acc,rfl,h2,λx hx=>hx.elim id λz=>(by cases z)⟩
 |(n,k)::r,acc,h1,h2=>by
  by_cases hk:k= .free
  ·subst hk;obtain⟨c,hc⟩:=h1 (n,.free) Ae rfl;obtain⟨cl,e,a,b⟩:=sI env r ((n,c)::acc) (λy hy=>h1 y (Ad _ hy)) (λx c' hx=>by
    cases hxn:x==n with
    |true=>
     simp only [Bo,hxn]at hx;have:x=n:=eq_of_beq hxn;subst this;cases hx;exact hc
    |false=>
     simp only [Bo,hxn]at hx;exact h2 x c' hx)
   refine⟨cl,?_,a,λx hx=>b x ?_⟩
   ·rw [<-e,Lu];have ec:cellOf env n=pure c:=by unfold cellOf;rw [hc]
    simp only [beq_self_eq_true,if_true,ec];rfl
   ·rcases hx with ⟨c',hx⟩|hx
    ·refine .inl ?_;cases hxn:x==n with
     |true=>exact⟨c,by simp only [Bo,hxn]⟩
     |false=>exact⟨c',by simp only [Bo,hxn];exact hx⟩
    ·rcases List.mem_cons.mp hx with z|z
     ·cases z;exact .inl ⟨c,by simp [Bo]⟩
     ·exact .inr z
  ·obtain⟨cl,e,a,b⟩:=sI env r acc (λy hy=>h1 y (Ad _ hy)) h2;refine⟨cl,?_,a,λx hx=>b x ?_⟩
   ·rw [<-e,Lu];have hb:(k==Dq)=false:=by simpa using hk
    simp only [hb,Ao,if_false];rfl
   ·rcases hx with hx|hx
    ·exact .inl hx
    ·rcases List.mem_cons.mp hx with z|z
     ·cases z;exact absurd rfl hk
     ·exact .inr z
def aG4 {X:Cx} {cap:List (Str×Nat)} (hcell:∀x,X.env.scope.names.lookup x=some .cell->∃c,X.env.cells.lookup x=some c) (kind:scope.kind= .function) (nocell:∀y∈scope.names,y.2≠ .cell)
  (names:∀y∈scope.names,y.2= .local->scope.names.lookup y.1=some .local) (free:∀y∈scope.names,y.2= .free->X.env.scope.names.lookup y.1=some .cell)
  (hcap:∀p∈cap,X.N[p.2]? =some p.1/\scope.names.lookup p.1=some .free/\X.env.scope.names.lookup p.1=some .cell):∃cl,iH X scope cap cl:=by
 obtain⟨cl,e,a,b⟩:=sI X.env scope.names [] (λy hy hf=>hcell _ (free y hy hf)) (λx c h=>by simp at h);refine⟨cl,?_,kind,nocell,names,a,λx hx=>b x (.inr (Dd hx)),hcap⟩;unfold closureFor;refine Eq.trans ?_ e;simp only [bind_pure]
abbrev aSw (n:Nat) (D:Addr) (Pv:Nat->List V->St->Hp->Prop) (i:Nat) (σ:St) (y:V) (H5:Hp):Prop:=
 ∃ys,H5 D=some (.lst ys)/\ys.length<sizeLine/\∃m',m'<n-i/\m'=n-(i+1)/\i+1<=n/\∃acc,Pv (i+1) acc σ (upd H5 D (.lst (ys++[y])))
def aY4 {n:Nat} {D:Addr} {Pv:Nat->List V->St->Hp->Prop} {σ:St} {H5:Hp} (h1:H5 D=some (.lst acc)) (h2:acc.length<sizeLine) (hi:i<n) (h3:Pv (i+1) (acc++[y]) σ (upd H5 D (.lst (acc++[y])))):aSw n D Pv i σ y H5:=
 ⟨acc,h1,h2,n-(i+1),by omega,rfl,hi,acc++[y],h3⟩
def aNy {K:Ac} {a D:Addr} {ni:Nat} {σ:St} {H:Hp} (Pv:Nat->List V->St->Hp->Prop) (h0:Pv 0 [] σ H) (hl:∀i acc σ H,i<=xs.length->Pv i acc σ H->SqT K H a xs)
  (hs:∀i x acc σ H,i<xs.length->xs[i]? =some x->Pv i acc σ H->te (σ.set ni (some x)) H λy H5=>aSw xs.length D Pv i (σ.set ni (some x)) y H5) (hd:∀acc σ H,Pv xs.length acc σ H->Q (.ref D) H):
  aSs (Itt K a) D (vQ ni) te Q σ H:=by
 refine⟨λi m σ H=>m=xs.length-i/\i<=xs.length/\∃acc,Pv i acc σ H,⟨xs.length,by simp,Bb _,[],h0⟩,?_⟩;rintro i m σ H ⟨rfl,hi,acc,p⟩;have q:=hl i acc σ H hi p;by_cases hlt:i<xs.length
 ·refine .inr ⟨⟨xs,xs[i],q,by simp [hlt]⟩,λx H' y=>?_⟩;obtain⟨e,y⟩:=y;subst e;exact hs i x acc σ _ hlt (y xs q) p
 ·have e:i=xs.length:=by omega
  subst e;exact .inl ⟨⟨xs,q,Am _⟩,hd acc σ H p⟩
def zV:eF X (.builtin "all") (λxs H Q=>∃(p:Addr) (bs:List Bool),xs=[.ref p]/\SqL X.K H p (bs.map V.bl)/\X.calm=true/\Q (.bl (bs.all id)) H):=by
 intro pins s σ H xs us Q I r h;obtain⟨p,bs,rfl,hq,hc,q⟩:=h;obtain⟨u,rfl,ru⟩:=vals1 r;cases ru;obtain⟨its,rv,pl,hz⟩:=I.list hq;have hl:=rv.length;rw [Ab]at hl;refine call_all_walk (He pl.isList ?_);have hlt:p<s.heap.objs.size:=by obtain⟨o,e,_⟩:=pl.isList;exact Ap e
 have hne:p≠s.heap.objs.size:=Ax hlt;have hd:X.A.in1.handled=none:=I.ok.hd hc;refine⟨s.heap.objs.size,_,_,_,_,_,λi=>bs.getD i true,rfl,Kg hd s.heap.objs.size p hne its.toArray,⟨⟨_,Ar _ rfl,rfl,rfl⟩,pl.isList.push _⟩,λi v s' Q' E' hv hQ=>?_,λh' tk hk=>?_⟩
 ·have hv':its[i]? =some v:=by simpa using hv
  have hi:i<its.length:=(List.getElem?_eq_some_iff.mp hv').1;have hi':i<bs.length:=by omega
  have e1:(bs.map V.bl)[i]? =some (V.bl bs[i]):=by simp [hi']
  obtain⟨u,hu,ru⟩:=rv.get e1;rw [hv']at hu;cases hu;have ru':v=Ga bs[i]:=ru;subst ru';have e2:bs.getD i true=bs[i]:=by simp [hi']
  have hQ':Q' (bs.getD i true) s':=hQ;rw [e2]at hQ';exact Ck hQ'
 ·refine⟨.bl (bs.all id),H,?_,?_,q⟩
  ·exact I.kept (t':=tk) λb o e=>hk b o (by simp;exact Ax (Ap e)) (Ai _ e)
  ·show Ga _=Ga _;congr 1;have e:its.toArray.size=bs.length:=by rw [Al];omega
   rw [e];have:∀l:List Bool,(Bq l.length).all (λi=>l.getD i true)=l.all id:=by
    intro l;induction l with
    |nil=>rfl
    |cons b l ih=>
     rw [Ah,rO,Kf, <-ih];congr 1
   exact this bs
theorem zP:∀{us:List Value} {ns:List Int},IntsAre us ns->Vals (ns.map V.int) us
 |_,_,.nil=> .nil
 |_,_,.cons i t r=> .cons ⟨t,rfl⟩ (zP r)
theorem aAe (f:Nat->Int) (ns:List Int) (h:∀j,j<ns.length->f j=ns.getD j 0):∀n,n<=ns.length->preSum f n=(ns.take n).sum
 |0,_=>by simp [preSum]
 |n+1,hn=>by
  show preSum f n+f n=_;rw [aAe f ns h n (by omega),h n hn,Hw];have e:ns[n]? =some (ns.getD n 0):=by simp [show n<ns.length from hn]
  rw [e,Hn];simp
theorem xP:∀(ns:List Int) (b:Int),(∀n∈ns,0<=n/\n<=b)->0<=b->∀j,0<=(ns.take j).sum/\(ns.take j).sum<=ns.length*b
 | [],b,_,hb,j=>by simp
 |n::ns,b,h,hb,0=>by
  simp;exact Jw (by omega) hb
 |n::ns,b,h,hb,j+1=>by
  have ih:=xP ns b (λm hm=>h m (Ad _ hm)) hb j;have hn:=h n Ae;rw [List.take_succ_cons,Fq,Ah];have:((ns.length+1:Nat):Int)*b=ns.length*b+b:=by rw [Jm,Py];simp
  rw [this];omega
inductive aSp (K:Ac) (xs:List V) (H:Hp) (Q:VK):Prop
 |mk (p:Addr) (ns:List Int) (q0_:xs=[.ref p]) (q1_:SqL K H p (ns.map V.int)) (q2_:ns.length<=1000) (q3_:(∀n∈ns,0<=n/\n<=1000)) (q4_:Q (.int ns.sum) H):aSp K xs H Q
def aXz (K:Ac):List V->Hp->VK->Prop:=λxs H Q=>aSp K xs H Q
def aO8 (hc:X.calm=true):eF X (.builtin "sum") (aXz X.K):=by
 intro pins s σ H xs us Q I r h;obtain⟨p,ns,rfl,hq,hln,hb,q⟩:=h;obtain⟨u,rfl,ru⟩:=vals1 r;cases ru;obtain⟨its,rv,pl,hz⟩:=I.list hq;have hi:IntsAre its ns:=intsAre_of rv;obtain⟨ys,e⟩:=hi.allInts.items;have hns:ns=ys.toList.map (·.1):=by
  rw [<-hi.numsOf, <-Pn, <-e]
 have hsz:ys.size=ns.length:=by rw [hns,Ab,As]
 have hl:=pl.isList;rw [e]at hl;have hat:∀j,j<ns.length->numAt ys j=ns.getD j 0:=λj hj=>by
  rw [Po,hns]
 have hps:∀n,n<=ns.length->preSum (numAt ys) n=(ns.take n).sum:=aAe _ _ hat;have hsum:=xP ns 1000 hb (by decide);have hbig:(ns.length:Int)*1000<=1000000:=by omega
 refine sum_intList (I.ok.hd hc) hl (λj hj=>⟨?_,?_⟩) λh' tk t' hk=>?_
 ·have hj':j<ns.length:=by omega
  rw [hat j hj'];have:=hb (ns.getD j 0) (by simp [hj']);exact⟨by omega,by omega⟩
 ·rw [hps (j+1) (by omega)];have:=hsum (j+1);exact⟨by omega,by omega⟩
 ·refine⟨.int _,H,I.kept (t':=tk) hk,⟨t',rfl⟩,?_⟩;rw [hsz,hps _ (Am _),Ip];exact q
def gather {prog:Program} {w:World} {A:Around} {s:Shared} {T:String} {r d:Addr} {n:Nat} {Pj:Nat->Value->Prop} {OK:Heap->Prop} {R:List Value->Shared->Prop} (src:Qf prog w T r d n Pj OK) (calm:A.handled=none) (there:OK s.heap) (fits:n<=sizeLine)
  (k:∀(g:Heap) (tk:Nat) (acc:Array Value),(∀b o,s.heap.get? b=some o->g.get? b=some o)->s.heap.objs.size<g.objs.size->ItemsOf Pj acc n->R acc.toList {s with heap:=g,toks:=tk}):wpAny (model prog w) A (collect (.ref r)) R E s:=by
 have lt:=src.there _ there;unfold collect;refine Aa (Oi (Ci entry_proto_collect' ?_));rw [Bt PySem.F.plain_proto_collect _];show wpAny _ A.in1 (newList []>>=λl=>again (.builtin "list.__iadd__" ⟨[l,.ref r],[]⟩)) _ _ s;refine Aa (Cv ?_);refine Af ⟨Do Me _,Ci entry_list_iadd' ?_⟩;rw [Bt Me _];have laid:(s.heap.push {cls:= .type "list",data:= .seq ([]:List Value).toArray}).get? s.heap.objs.size=some {cls:= .type "list",data:= .seq #[]}:=Ar _ rfl;show wpAny _ A.in1 (Gq (.ref s.heap.objs.size) (.ref r) (.ref s.heap.objs.size)) _ _ {s with heap:=s.heap.push {cls:= .type "list",data:= .seq ([]:List Value).toArray}};have done:∀(g:Heap) (tk:Nat) (acc:Array Value) (c:Nat),(∀b o,s.heap.get? b=some o->g.get? b=some o)->g.get? s.heap.objs.size=some {cls:= .type "list",dict:=none,data:= .seq acc c,slots:= #[]}->ItemsOf Pj acc n->R acc.toList {s with heap:=g,toks:=tk}:=λg tk acc c hk hS ha=>k g tk acc hk (Ap hS) ha;have run:=PySem.W.kdl_extend (A:=A) (s:={s with heap:=s.heap.push {cls:= .type "list",data:= .seq ([]:List Value).toArray}}) (R:=λ(q:Result) (s':Shared)=>∃(g:Heap) (tk:Nat) (acc:Array Value) (c:Nat),q= .ok (.ret (.ref s.heap.objs.size))/\s'={s with heap:=g,toks:=tk}/\(∀b o,s.heap.get? b=some o->g.get? b=some o)/\g.get? s.heap.objs.size=some {cls:= .type "list",dict:=none,data:= .seq acc c,slots:= #[]}/\ItemsOf Pj acc n)
  src calm (src.keep _ _ there λb _ o e=>Ai _ e) s.heap.objs.size (Ha lt.1) (Ha lt.2) (.ref s.heap.objs.size) 0 laid (λg tk acc c hk hS ha=>⟨g,tk,acc,c,rfl,rfl,λb o e=>hk b o (Ax (Ap e)) (Ai _ e),hS,ha⟩) fits
 refine Cq run (λfin s' got=>?_) λe s' got=>by obtain⟨_,_,_,_,bad,_⟩:=got;cases bad
 cases fin with
 |done f=>obtain⟨g,tk,acc,c,e,rfl,hk,hS,ha⟩:=got;cases e;show wpAny _ A (load s.heap.objs.size>>=_) _ _ _;exact Aa (Pc hS (Af (done g tk acc c hk hS ha)))
 |again c1=>exact⟨got.1,Hl got.2 λq s2 y=>by obtain⟨g,tk,acc,c,rfl,rfl,hk,hS,ha⟩:=y;show wpAny _ A (load s.heap.objs.size>>=_) _ _ _;exact Aa (Pc hS (Af (done g tk acc c hk hS ha)))⟩
variable {prog:Program} {w:World} {A:Around}
def aK5 (x d:Value):argsOk "max" ⟨[x],[(Au "default",d)]⟩:=by
 unfold argsOk
 kernel_rfl
def aV7 (num:Nat->Int) (P:Nat->Value->Prop) (j:Nat):Option (Nat×Value)->Prop
 |none=>j=0
 |some (i,v)=>i<j/\P i v/\∀t,t<j->num t<=num i
def aI2 (o:Option (Nat×Value)):Array Value:=match o with
 |none=> #[]
 |some (_,v)=> #[v,v]
theorem aA1 {It Bx:Addr} {fp wr:List Addr} {n:Nat} {P:Nat->Value->Prop} {St:Nat->Heap->Prop} {R:Result->Shared->Prop} {d:Value} {num:Nat->Int} (W:Walks prog w A.in1 It fp wr n P St) (cm:CmpOf prog w A.in1 .Gt P (λi j=>decide (num i>num j))) (apart:Bx∉fp):
  ∀(k j:Nat) (s:Shared) (o:Option (Nat×Value)) (c:Nat),n=j+k->St j s.heap->aV7 num P j o->s.heap.get? Bx=some {cls:= .type "list",dict:=none,data:= .seq (aI2 o) c,slots:= #[]}->
   (∀v h' tk,(n=0/\v=d∨∃o',o'=some v/\∃i,aV7 num P n (some (i,v)))->(∀b ob,b∉wr->b≠Bx->s.heap.get? b=some ob->h'.get? b=some ob)->R (.ok (.ret v)) {s with heap:=h',toks:=tk})->
   codeAny (model prog w) A (.builtin "max.loop" ⟨[.ref It,.none,.ref Bx],[("default",d)]⟩) R s
 |0,j,s,o,c,en,at_,top,hS,fin=>by
  have outw:Bx∉wr:=λz=>apart (W.sub _ z);cases en;refine Ci Sk ?_;rw [Bt Gf _];show wpAny _ A.in1 (seqItems? (.ref Bx)>>=_) _ _ s;refine Aa (Ew hS rfl ?_);show wpAny _ A.in1 (tryCatch (pyNext (.ref It)) _>>=_) _ _ s;refine Aa (Kj (W.done s _ _ at_ λh' tk kept=>?_));have hS2:=kept Bx _ outw hS;cases o with
  |none=>
   have z:j=0:=top;show wpAny _ A.in1 (rule _>>=_) _ _ _;exact Aa (Iy (Af (fin d h' tk (.inl ⟨z,rfl⟩) λb ob h1 _ h3=>kept b ob h1 h3)))
  |some q=>
   show wpAny _ A.in1 (updateSeq Bx (λ_=> #[])>>=_) _ _ _;refine Aa (Hz (hz:=by show 2<=sizeLine;decide) hS2 rfl (Aa (Nq (Af (fin q.2 _ tk (.inr ⟨_,rfl,q.1,top⟩) λb ob h1 h2 h3=>?_)))));exact(Da _ _ (Cy h2)).trans (kept b ob h1 h3)
 |k+1,j,s,o,c,en,at_,top,hS,fin=>by
  have outw:Bx∉wr:=λz=>apart (W.sub _ z);have more:j<n:=by omega
  have nm:(toString "max"++toString ".loop":String)="max.loop":=by decide
  refine Ci Sk ?_;rw [Bt Gf _];show wpAny _ A.in1 (seqItems? (.ref Bx)>>=_) _ _ s;refine Aa (Ew hS rfl ?_);show wpAny _ A.in1 (tryCatch (pyNext (.ref It)) _>>=_) _ _ s;refine Aa (Kj (W.item j s _ _ more at_ λv h' tk pv at2 kept=>?_));have hS2:=kept Bx _ outw hS;have step:∀(o2:Option (Nat×Value)) (c2:Nat) (h2:Heap) (t2:Nat),aV7 num P (j+1) o2->h2.get? Bx=some {cls:= .type "list",dict:=none,data:= .seq (aI2 o2) c2,slots:= #[]}->(∀b ob,b≠Bx->h'.get? b=some ob->h2.get? b=some ob)->
    codeAny (model prog w) A (.builtin "max.loop" ⟨[.ref It,.none,.ref Bx],[("default",d)]⟩) R {s with heap:=h2,toks:=t2}:=λo2 c2 h2 t2 top2 hS3 k2=>by
   refine aA1 W cm apart k (j+1) {s with heap:=h2,toks:=t2} o2 c2 (by omega) (W.frame _ _ _ at2 λb hb ob e=>k2 b ob (λz=>apart (z▸hb)) e) top2 hS3 λv3 h3 t3 r3 k3=>?_;exact fin v3 h3 t3 r3 λb ob a1 a2 a3=>k3 b ob a1 a2 (k2 b ob a2 (kept b ob a1 a3))
  cases o with
  |none=>
   have z:j=0:=top;subst z;show wpAny _ A.in1 (updateSeq Bx (λ_=> #[v,v])>>=_) _ _ _;refine Aa (Hz hS2 rfl ?_);rw [nm];refine Af ⟨Do Gf _,step (some (0,v)) _ _ _ ⟨Pu,pv,λt ht=>?_⟩ (Cc _ hS2 rfl) λb ob hb e=>(Da _ _ (Cy hb)).trans e⟩;have:t=0:=by omega
   subst this;exact Mg _
  |some q=>
   obtain⟨i,vb⟩:=q;obtain⟨hi,pb,best⟩:=top;show wpAny _ A.in1 (tryCatch (holding [v,v] (richCompare .Gt v vb>>=_)) _>>=_) _ _ _;refine Aa (Kj (By (Aa (cm j i v vb _ _ _ pv pb ?_))));refine Aa (By (Ck (Aa (Nq (Af ?_)))));dsimp only;by_cases hb:num j>num i
   ·rw [decide_eq_true hb,if_pos rfl];refine Aa (Hz (hz:=by show 2<=sizeLine;decide) hS2 rfl (Aa (Nq ?_)));rw [nm];refine Af ⟨Do Gf _,step (some (j,v)) _ _ _ ⟨Ed j,pv,λt ht=>?_⟩ (Cc _ hS2 rfl) λb ob hb e=>(Da _ _ (Cy hb)).trans e⟩;by_cases ht2:t<j
    ·have:=best t ht2;omega
    ·have:t=j:=by omega
     subst this;exact Mg _
   ·rw [decide_eq_false hb,if_neg Aj];refine Aa (Nq ?_);rw [nm];refine Af ⟨Do Gf _,step (some (i,vb)) _ _ _ ⟨by omega,pb,λt ht=>?_⟩ hS2 λb ob _ e=>e⟩;by_cases ht2:t<j
    ·exact best t ht2
    ·have:t=j:=by omega
     subst this;omega
def aOa (X:Cx) (f:Value) (ks:List Str) (r:List V->List V->Hp->VK->Prop):Prop:=
 ∀(pins:List (Addr×Obj)) (s:Shared) (σ:St) (H:Hp) (xs ys:List V) (us ws:List Value) (Q:VK),Inv X pins σ H s->Vals xs us->Vals ys ws->r xs ys H Q->wpAny (model X.prog X.w) X.A (call f us (ks.zip ws)) (EP X pins σ Q) X.xe s
def aZ2 (r:List V->List V->Hp->VK->Prop) (t tk:TA):TE:=λσ H Q=>t σ H λxs H1=>tk σ H1 λys H2=>r xs ys H2 Q
def aLv {X:Cx} {id:String} {ks:List Str} {r:List V->List V->Hp->VK->Prop} {e:Expr} {es:List Expr} {kws:List Keyword} {t tk:TA} {p pos:Pos} (hc:aOa X (.builtin id) ks r) (hg:Gl X x) (hm:X.mg x=none) (hv:bootBuiltins x=some (.builtin id)) (ha:PA X (e::es) t) (hkw:PK X kws tk)
  (hall:(backToKw pos (keywordEach kws X.env)).all (·.1.isSome)=true:=by rfl) (hks:(backToKw pos (keywordEach kws X.env)).filterMap (·.1)=ks:=by rfl) (hn:x≠"__name__":=by decide) (hdb:(x==("__debug__":Str))=false:=by decide)
  (he:starEach (e::es) X.env=(false,eval e X.env)::starEach es X.env:=by rfl) (hpl:(backTo pos (starEach (e::es) X.env)).any (·.1)=false:=by rfl) (hpk:(backToKw pos (keywordEach kws X.env)).any (·.1.isNone)=false:=by rfl):PE X (.Call (.Name x p) (e::es) kws pos) (aZ2 r t tk):=by
 intro pins s σ H Q I h;refine Gs (uK I hg hm hv ?_ hn hdb);refine Uy (thn (ha pos pins s σ H _ I h) λus s1 ⟨vs,H1,I1,r1,q1⟩=>?_) (by rw [he];rfl) hpl hall hpk;refine thn (hkw pos pins s1 σ H1 _ I1 q1) λws s2 ⟨zs,H2,I2,rz,q2⟩=>?_;rw [hks];exact hc pins s2 σ H2 vs zs us ws Q I2 r1 rz q2
def aZa (K:Ac):List V->List V->Hp->VK->Prop:=λxs ys H Q=>∃p ns d,xs=[.ref p]/\ys=[d]/\SqL K H p (ns.map V.int)/\(ns=[]->Q d H)/\∀m:Int,m∈ns->(∀a∈ns,a<=m)->Q (.int m) H
def aKz {X:Cx} (hc:X.calm=true):aOa X (.builtin "max") ["default"] (aZa X.K):=by
 intro pins s σ H xs ys us ws Q I r rk h;obtain⟨p,ns,d,rfl,rfl,hq,q0,q1⟩:=h;obtain⟨u,rfl,ru⟩:=vals1 r;obtain⟨dv,rfl,rd⟩:=vals1 rk;cases ru;obtain⟨its,rv,pl,hz⟩:=I.list hq;have hi:IntsAre its ns:=intsAre_of rv;obtain⟨ys,e⟩:=hi.allInts.items;have hns:ns=ys.toList.map (·.1):=by rw [<-hi.numsOf, <-Pn, <-e]
 have hl:=pl.isList;rw [e]at hl;have nm:(toString "max"++toString ".loop":String)="max.loop":=by decide
 refine kmb_tree F.kind_max F.plain_max F.entry_max (aK5 _ _) ?_;show wpAny _ X.A.in1 (Je "max" ["key","default"] 0 ⟨[],[(Au "default",dv)]⟩>>=_) _ _ s;refine Aa (Np (show Je "max" ["key","default"] 0 ⟨[],[(Au "default",dv)]⟩=pure [none,some dv] by rfl) (Aa (Af ?_)));refine Aa (iter_intList hl λs₂ es st hfp hlI=>?_);refine Aa (Cv ?_);have apart:s₂.heap.objs.size∉[s.heap.objs.size,p]:=λz=>Eg _ (hfp _ z);rw [nm];have W:=Kg (prog:=X.prog) (w:=X.w) (A:=X.A.in1) (I.ok.hd hc) s.heap.objs.size p hlI (intItems ys);refine Af ⟨Do Gf _,aA1 W (CmpOf.ints_gt (numAt ys) (λ_ _=>Rj)) apart _ 0 _ none _ (by rw [Jj]) (W.frame _ _ _ st λb _ o eb=>Ai _ eb) rfl (Ar _ rfl) λv h' tk res kept=>?_⟩;subst es;have old:∀b o,s.heap.get? b=some o->h'.get? b=some o:=λb o eb=>by
  have lt:=Ap eb;refine kept b o (λz=>?_) (λz=>?_) (Ai _ (Ai _ eb))
  ·have z':=List.mem_singleton.mp z;exact absurd lt (by rw [z'];exact Eg _)
  ·rw [Dk]at z;exact absurd lt (by rw [z];exact Nat.not_lt.mpr (Gd _))
 rcases res with ⟨n0,rfl⟩|⟨_,_,i,hin,pv,best⟩
 ·refine⟨d,H,I.kept (t':=tk) old,rd,q0 ?_⟩;rw [hns];have:ys.size=0:=by simpa [intItems]using n0
  rw [List.map_eq_nil_iff, <-As]at*;exact List.eq_nil_of_length_eq_zero (by rw [As];exact this)
 ·obtain⟨t,rfl⟩:=Rj (by simpa [intItems]using pv);have hin':i<ys.size:=by simpa [intItems]using hin
  refine⟨.int _,H,I.kept (t':=tk) old,⟨t,rfl⟩,q1 _ ?_ λa ha=>?_⟩
  ·rw [hns,Po];exact getD_mem (by rw [Ab,As];omega)
  ·rw [hns]at ha;obtain⟨j,hj,rfl⟩:=mem_getD ha;rw [Ab,As]at hj;have:=best j (by simpa [intItems]using hj);rw [<-Po];exact this
inductive D where
 |fl (x:V)
 |tp (l:List D)
 |ls (l:List D)
mutual
def Den (K:Ac) (H:Hp):D->V->Prop
 | .fl x,v=>v=x/\jG x=true
 | .tp l,v=>∃a xs,v= .ref a/\SqT K H a xs/\wC K H l xs
 | .ls l,v=>∃a xs,v= .ref a/\SqL K H a xs/\wC K H l xs
def wC (K:Ac) (H:Hp):List D->List V->Prop
 | [],xs=>xs=[]
 |d::l,xs=>∃x r,xs=x::r/\Den K H d x/\wC K H l r
end
mutual
def D.eq:D->D->Bool
 | .fl x,.fl y=>eqV x y
 | .tp l,.tp m=>D.eqs l m
 | .ls l,.ls m=>D.eqs l m
 |_,_=>false
def D.eqs:List D->List D->Bool
 | [],[]=>true
 |x::l,y::m=>D.eq x y && D.eqs l m
 |_,_=>false
end
mutual
def D.dep:D->Nat
 | .fl _=>0
 | .tp l=>D.deps l+1
 | .ls l=>D.deps l+1
def D.deps:List D->Nat
 | []=>0
 |x::l=>max (D.dep x) (D.deps l)
end
section
variable {X:Cx} {pins:List (Addr×Obj)} {σ:St} {H:Hp} {s:Shared}
def Inv.not_both {a:Addr} {xs ys:List V} (I:Inv X pins σ H s) (h:SqL X.K H a xs) (h':SqT X.K H a ys):False:=by
 obtain⟨its,r1,p1,_⟩:=I.list h;obtain⟨its2,r2,p2,_⟩:=I.tuple h';obtain⟨o,ho,hc,_⟩:=p1.isList;obtain⟨o2,ho2,hc2,_⟩:=p2;rw [ho]at ho2;cases ho2;rw [hc]at hc2;simp at hc2
mutual
theorem aAw (I:Inv X pins σ H s):∀(d e:D) {v:V},Den X.K H d v->Den X.K H e v->d.eq e=true
 | .fl x,.fl y,v,h,h'=>by
  obtain⟨rfl,f⟩:=h;obtain⟨rfl,_⟩:=h';rw [D.eq];exact aF1 f
 | .fl x,.tp m,v,h,h'=>by
  obtain⟨rfl,f⟩:=h;obtain⟨a,xs,rfl,_⟩:=h';exact absurd (show false=true from f) Aj
 | .fl x,.ls m,v,h,h'=>by
  obtain⟨rfl,f⟩:=h;obtain⟨a,xs,rfl,_⟩:=h';exact absurd (show false=true from f) Aj
 | .tp l,.fl x,v,h',h=>by
  obtain⟨rfl,f⟩:=h;obtain⟨a,xs,rfl,_⟩:=h';exact absurd (show false=true from f) Aj
 | .ls l,.fl x,v,h',h=>by
  obtain⟨rfl,f⟩:=h;obtain⟨a,xs,rfl,_⟩:=h';exact absurd (show false=true from f) Aj
 | .tp l,.tp m,v,h,h'=>by
  obtain⟨a,xs,rfl,h1,h2⟩:=h;obtain⟨b,ys,e,h3,h4⟩:=h';cases e;rw [I.tuple_inj h3 h1]at h4;rw [D.eq];exact wZ I l m h2 h4
 | .ls l,.ls m,v,h,h'=>by
  obtain⟨a,xs,rfl,h1,h2⟩:=h;obtain⟨b,ys,e,h3,h4⟩:=h';cases e;rw [I.list_inj h3 h1]at h4;rw [D.eq];exact wZ I l m h2 h4
 | .tp l,.ls m,v,h,h'=>by
  obtain⟨a,xs,rfl,h1,h2⟩:=h;obtain⟨b,ys,e,h3,h4⟩:=h';cases e;exact(I.not_both h3 h1).elim
 | .ls l,.tp m,v,h,h'=>by
  obtain⟨a,xs,rfl,h1,h2⟩:=h;obtain⟨b,ys,e,h3,h4⟩:=h';cases e;exact(I.not_both h1 h3).elim
theorem wZ (I:Inv X pins σ H s):∀(l m:List D) {xs:List V},wC X.K H l xs->wC X.K H m xs->D.eqs l m=true
 | [],[],xs,h,h'=>by rw [D.eqs]
 | [],_::_,xs,h,h'=>by
  obtain⟨x,r,rfl,_⟩:=h';cases (show(x::r)=[]from h)
 |_::_,[],xs,h',h=>by
  obtain⟨x,r,rfl,_⟩:=h';cases (show(x::r)=[]from h)
 |d::l,e::m,xs,h,h'=>by
  obtain⟨x,r,rfl,h1,h2⟩:=h;obtain⟨y,r',q,h3,h4⟩:=h';cases q;rw [D.eqs,aAw I d e h1 h3,wZ I l m h2 h4];rfl
end
mutual
theorem aPz (I:Inv X pins σ H s):∀(d e:D) {v v':V} {u u':Value} {A:Around},RelV v u->RelV v' u'->Den X.K H d v->Den X.K H e v'->A.units+d.dep+e.dep<cLine->Ib A s u u' (d.eq e)
 | .fl x,.fl y,v,v',u,u',A,r,r',h,h',hu=>by
  obtain⟨rfl,f⟩:=h;obtain⟨rfl,f'⟩:=h';rw [D.eq];exact aN6 r r' f f'
 | .fl x,.tp m,v,v',u,u',A,r,r',h,h',hu=>by
  obtain⟨rfl,f⟩:=h;obtain⟨a,xs,rfl,hb,_⟩:=h';cases r';obtain⟨its2,r2,p2,_⟩:=I.tuple hb;rw [show D.eq (.fl v) (.tp m)=false by simp [D.eq]];have hu':A.units<cLine:=by omega
  cases v with
  |non=>cases r;exact SeqAt.EqAt.none_tuple p2 hu'
  |bl c=>cases r;exact SeqAt.EqAt.bool_tuple c p2 hu'
  |int c=>obtain⟨t,rfl⟩:=r;exact SeqAt.EqAt.int_tuple c t p2 hu'
  |str c=>obtain⟨t,rfl⟩:=r;exact SeqAt.EqAt.str_tuple c t p2 hu'
  |_=>exact absurd (show false=true from f) Aj
 | .fl x,.ls m,v,v',u,u',A,r,r',h,h',hu=>by
  obtain⟨rfl,f⟩:=h;obtain⟨a,xs,rfl,hb,_⟩:=h';cases r';obtain⟨its2,r2,p2,_⟩:=I.list hb;rw [show D.eq (.fl v) (.ls m)=false by simp [D.eq]];have hu':A.units<cLine:=by omega
  cases v with
  |non=>cases r;exact SeqAt.EqAt.none_list p2.isList hu'
  |bl c=>cases r;exact SeqAt.EqAt.bool_list c p2.isList hu'
  |int c=>obtain⟨t,rfl⟩:=r;exact SeqAt.EqAt.int_list c t p2.isList hu'
  |str c=>obtain⟨t,rfl⟩:=r;exact SeqAt.EqAt.str_list c t p2.isList hu'
  |_=>exact absurd (show false=true from f) Aj
 | .tp l,.fl x,v',v,u',u,A,r',r,h',h,hu=>by
  obtain⟨rfl,f⟩:=h;obtain⟨a,xs,rfl,hb,_⟩:=h';cases r';obtain⟨its2,r2,p2,_⟩:=I.tuple hb;rw [show D.eq (.tp l) (.fl v)=false by simp [D.eq]];have hu':A.units<cLine:=by omega
  cases v with
  |non=>cases r;exact SeqAt.EqAt.tuple_none p2 hu'
  |bl c=>cases r;exact SeqAt.EqAt.tuple_bool c p2 hu'
  |int c=>obtain⟨t,rfl⟩:=r;exact SeqAt.EqAt.tuple_int c t p2 hu'
  |str c=>obtain⟨t,rfl⟩:=r;exact SeqAt.EqAt.tuple_str c t p2 hu'
  |_=>exact absurd (show false=true from f) Aj
 | .ls l,.fl x,v',v,u',u,A,r',r,h',h,hu=>by
  obtain⟨rfl,f⟩:=h;obtain⟨a,xs,rfl,hb,_⟩:=h';cases r';obtain⟨its2,r2,p2,_⟩:=I.list hb;rw [show D.eq (.ls l) (.fl v)=false by simp [D.eq]];have hu':A.units<cLine:=by omega
  cases v with
  |non=>cases r;exact SeqAt.EqAt.list_none p2.isList hu'
  |bl c=>cases r;exact SeqAt.EqAt.list_bool c p2.isList hu'
  |int c=>obtain⟨t,rfl⟩:=r;exact SeqAt.EqAt.list_int c t p2.isList hu'
  |str c=>obtain⟨t,rfl⟩:=r;exact SeqAt.EqAt.list_str c t p2.isList hu'
  |_=>exact absurd (show false=true from f) Aj
 | .tp l,.ls m,v,v',u,u',A,r,r',h,h',hu=>by
  obtain⟨a,xs,rfl,h1,_⟩:=h;obtain⟨b,ys,rfl,h3,_⟩:=h';cases r;cases r';obtain⟨its,r1,p1,_⟩:=I.tuple h1;obtain⟨its2,r2,p2,_⟩:=I.list h3;rw [show D.eq (.tp l) (.ls m)=false by simp [D.eq]];exact SeqAt.EqAt.tuple_list p1 p2.isList (by omega)
 | .ls l,.tp m,v,v',u,u',A,r,r',h,h',hu=>by
  obtain⟨a,xs,rfl,h1,_⟩:=h;obtain⟨b,ys,rfl,h3,_⟩:=h';cases r;cases r';obtain⟨its,r1,p1,_⟩:=I.list h1;obtain⟨its2,r2,p2,_⟩:=I.tuple h3;rw [show D.eq (.ls l) (.tp m)=false by simp [D.eq]];exact SeqAt.EqAt.list_tuple p1.isList p2 (by omega)
 | .tp l,.tp m,v,v',u,u',A,r,r',h,h',hu=>by
  by_cases hab:v=v'
  ·subst hab;rw [aAw I _ _ h h'];rw [show u'=u from by obtain⟨a,xs,rfl,_⟩:=h;cases r;cases r';rfl];exact Ke _
  ·obtain⟨a,xs,rfl,h1,h2⟩:=h;obtain⟨b,ys,rfl,h3,h4⟩:=h';cases r;cases r';obtain⟨its,r1,p1,_⟩:=I.tuple h1;obtain⟨its2,r2,p2,_⟩:=I.tuple h3;rw [D.dep,D.dep]at hu;obtain⟨e,he,ee⟩:=vR (A:=A.in1) I l m r1 r2 h2 h4 (by show A.units+1+_+_<_;omega);have key:=Ng (A:=A) (s:=s) (l:=a) (b:=b) (items:=its.toArray) (items2:=its2.toArray) (e:=e) p1 p2 (by omega) (λj g1 g2=>by
    have:=he j (by simpa using g1) (by simpa using g2);simpa using this)
   rw [Al,Al,ee]at key;rw [D.eq];exact Mx (λz=>hab (by rw [z])) key
 | .ls l,.ls m,v,v',u,u',A,r,r',h,h',hu=>by
  by_cases hab:v=v'
  ·subst hab;rw [aAw I _ _ h h'];rw [show u'=u from by obtain⟨a,xs,rfl,_⟩:=h;cases r;cases r';rfl];exact Ke _
  ·obtain⟨a,xs,rfl,h1,h2⟩:=h;obtain⟨b,ys,rfl,h3,h4⟩:=h';cases r;cases r';obtain⟨its,r1,p1,_⟩:=I.list h1;obtain⟨its2,r2,p2,_⟩:=I.list h3;rw [D.dep,D.dep]at hu;obtain⟨e,he,ee⟩:=vR (A:=A.in1) I l m r1 r2 h2 h4 (by show A.units+1+_+_<_;omega);rw [D.eq];refine Mx (λz=>hab (by rw [z])) ?_;by_cases hz:its.toArray.size=its2.toArray.size
   ·have key:=Nv (A:=A) (s:=s) (l:=a) (b:=b) (items:=its.toArray) (items2:=its2.toArray) (e:=e) p1.isList p2.isList hz (by omega) (λj g1 g2=>by
     have:=he j (by simpa using g1) (by simpa using g2);simpa using this)
    rw [Al,Al]at hz;rw [<-hz,Vd,beq_self_eq_true,Sm]at ee;rw [Al,ee]at key;exact key
   ·have hb':(its.length==its2.length)=false:=by simpa using hz
    rw [hb',Gx]at ee;rw [<-ee];exact SeqAt.RcAt.lists_lengths p1.isList p2.isList (by simpa using hz) (by omega)
theorem vR (I:Inv X pins σ H s) {A:Around}:∀(l m:List D) {xs ys:List V} {us ws:List Value},Vals xs us->Vals ys ws->wC X.K H l xs->wC X.K H m ys->A.units+D.deps l+D.deps m<cLine->
  ∃e:Nat->Bool,(∀j (h1:j<us.length) (h2:j<ws.length),Ib A s us[j] ws[j] (e j))/\((Bq (min us.length ws.length)).all e && us.length==ws.length)=D.eqs l m
 | [],m,xs,ys,us,ws,r,r',h,h',hu=>by
  cases (show xs=[]from h);cases r;refine⟨λ_=>true,λj h1 _=>absurd h1 (Dl j),?_⟩;cases m with
  |nil=>cases (show ys=[]from h');cases r';rw [D.eqs];rfl
  |cons e m=>
   obtain⟨y,t,rfl,_⟩:=h';cases r';simp [D.eqs]
 |d::l,[],xs,ys,us,ws,r,r',h,h',hu=>by
  obtain⟨x,t,rfl,_⟩:=h;cases (show ys=[]from h');cases r;cases r';exact⟨λ_=>true,λj _ h1=>absurd h1 (Dl j),by simp [D.eqs]⟩
 |d::l,e::m,xs,ys,us,ws,r,r',h,h',hu=>by
  obtain⟨x,t,rfl,h1,h2⟩:=h;obtain⟨y,t',rfl,h3,h4⟩:=h';cases r with
  |@cons _ u0 _ us0 ru rus=>
  cases r' with
  |@cons _ w0 _ ws0 rw0 rws=>
  have hu1:A.units+d.dep+e.dep<cLine:=by
   rw [D.deps,D.deps]at hu;have:=Jl d.dep (D.deps l);have:=Jl e.dep (D.deps m);omega
  have hu2:A.units+D.deps l+D.deps m<cLine:=by
   rw [D.deps,D.deps]at hu;have:=Iw d.dep (D.deps l);have:=Iw e.dep (D.deps m);omega
  have E0:=aPz I d e (A:=A) ru rw0 h1 h3 hu1;obtain⟨e',he,ee⟩:=vR I l m rus rws h2 h4 hu2;refine⟨λj=>match j with|0=>d.eq e|j+1=>e' j,λj g1 g2=>?_,?_⟩
  ·cases j with
   |zero=>exact E0
   |succ j=>exact he j (by simpa using g1) (by simpa using g2)
  ·have hmin:min (u0::us0).length (w0::ws0).length=min us0.length ws0.length+1:=by
    rw [Ah,Ah];omega
   rw [hmin,rO,D.eqs, <-ee];show(d.eq e && (Bq (min us0.length ws0.length)).all e' && _)=_;rw [Bool.and_assoc];congr 2;rw [Ej];simp
end
end
def aV8 {A:Around} {s:Shared} {y x:V} {u v:Value} (ry:RelV y u) (rx:RelV x v) (fy:jG y=true) (fx:jG x=true):Uh A s u v (eqV y x)/\Sf A s u v (!eqV y x):=by
 cases y<;>first|exact absurd (show false=true from fy) Aj|(cases x<;>first|exact absurd (show false=true from fx) Aj|skip)
 all_goals first|obtain⟨t1,rfl⟩:=ry|cases ry
 all_goals first|obtain⟨t2,rfl⟩:=rx|cases rx
 ·exact⟨.none_none,.none_none⟩
 ·exact⟨.none_bool _,.none_bool _⟩
 ·exact⟨.none_int _ _,.none_int _ _⟩
 ·exact⟨.none_str _ _,.none_str _ _⟩
 ·exact⟨.bool_none _,.bool_none _⟩
 ·exact⟨.bool_bool _ _,.bool_bool _ _⟩
 ·exact⟨.bool_int _ _ _,.bool_int _ _ _⟩
 ·exact⟨.bool_str _ _ _,.bool_str _ _ _⟩
 ·exact⟨.int_none _ _,.int_none _ _⟩
 ·exact⟨.int_bool _ _ _,.int_bool _ _ _⟩
 ·exact⟨.int_int _ _ _ _,.int_int _ _ _ _⟩
 ·exact⟨.int_str _ _ _ _,.int_str _ _ _ _⟩
 ·exact⟨.str_none _ _,.str_none _ _⟩
 ·exact⟨.str_bool _ _ _,.str_bool _ _ _⟩
 ·exact⟨.str_int _ _ _ _,.str_int _ _ _ _⟩
 ·exact⟨.str_str _ _ _ _,.str_str _ _ _ _⟩
section
variable {X:Cx} {pins:List (Addr×Obj)} {σ:St} {H:Hp} {s:Shared}
def aNs (I:Inv X pins σ H s) (d e:D) {v v':V} {u u':Value} {A:Around} (r:RelV v u) (r':RelV v' u') (h:Den X.K H d v) (h':Den X.K H e v') (hu:A.units+d.dep+e.dep<cLine):
  Uh A s u u' (d.eq e)/\Sf A s u u' (!d.eq e):=by
 have hu':A.units<cLine:=by omega
 match d,e,h,h',hu with
 | .fl x,.fl y,h,h',hu=>
  obtain⟨rfl,f⟩:=h;obtain⟨rfl,f'⟩:=h';rw [D.eq];exact aV8 r r' f f'
 | .fl x,.tp m,h,h',hu=>
  obtain⟨rfl,f⟩:=h;obtain⟨a,xs,rfl,hb,_⟩:=h';cases r';obtain⟨its2,r2,p2,_⟩:=I.tuple hb;rw [show D.eq (.fl v) (.tp m)=false by simp [D.eq]];cases v with
  |non=>cases r;exact⟨.none_tuple p2 hu',.none_tuple p2 hu'⟩
  |bl c=>cases r;exact⟨.bool_tuple c p2 hu',.bool_tuple c p2 hu'⟩
  |int c=>obtain⟨t,rfl⟩:=r;exact⟨.int_tuple c t p2 hu',.int_tuple c t p2 hu'⟩
  |str c=>obtain⟨t,rfl⟩:=r;exact⟨.str_tuple c t p2 hu',.str_tuple c t p2 hu'⟩
  |_=>exact absurd (show false=true from f) Aj
 | .fl x,.ls m,h,h',hu=>
  obtain⟨rfl,f⟩:=h;obtain⟨a,xs,rfl,hb,_⟩:=h';cases r';obtain⟨its2,r2,p2,_⟩:=I.list hb;rw [show D.eq (.fl v) (.ls m)=false by simp [D.eq]];have p2:=p2.isList;cases v with
  |non=>cases r;exact⟨.none_list p2 hu',.none_list p2 hu'⟩
  |bl c=>cases r;exact⟨.bool_list c p2 hu',.bool_list c p2 hu'⟩
  |int c=>obtain⟨t,rfl⟩:=r;exact⟨.int_list c t p2 hu',.int_list c t p2 hu'⟩
  |str c=>obtain⟨t,rfl⟩:=r;exact⟨.str_list c t p2 hu',.str_list c t p2 hu'⟩
  |_=>exact absurd (show false=true from f) Aj
 | .tp m,.fl x,h',h,hu=>
  obtain⟨rfl,f⟩:=h;obtain⟨a,xs,rfl,hb,_⟩:=h';cases r;obtain⟨its2,r2,p2,_⟩:=I.tuple hb;rw [show D.eq (.tp m) (.fl v')=false by simp [D.eq]];cases v' with
  |non=>cases r';exact⟨.tuple_none p2 hu',.tuple_none p2 hu'⟩
  |bl c=>cases r';exact⟨.tuple_bool c p2 hu',.tuple_bool c p2 hu'⟩
  |int c=>obtain⟨t,rfl⟩:=r';exact⟨.tuple_int c t p2 hu',.tuple_int c t p2 hu'⟩
  |str c=>obtain⟨t,rfl⟩:=r';exact⟨.tuple_str c t p2 hu',.tuple_str c t p2 hu'⟩
  |_=>exact absurd (show false=true from f) Aj
 | .ls m,.fl x,h',h,hu=>
  obtain⟨rfl,f⟩:=h;obtain⟨a,xs,rfl,hb,_⟩:=h';cases r;obtain⟨its2,r2,p2,_⟩:=I.list hb;rw [show D.eq (.ls m) (.fl v')=false by simp [D.eq]];have p2:=p2.isList;cases v' with
  |non=>cases r';exact⟨.list_none p2 hu',.list_none p2 hu'⟩
  |bl c=>cases r';exact⟨.list_bool c p2 hu',.list_bool c p2 hu'⟩
  |int c=>obtain⟨t,rfl⟩:=r';exact⟨.list_int c t p2 hu',.list_int c t p2 hu'⟩
  |str c=>obtain⟨t,rfl⟩:=r';exact⟨.list_str c t p2 hu',.list_str c t p2 hu'⟩
  |_=>exact absurd (show false=true from f) Aj
 | .tp l,.ls m,h,h',hu=>
  obtain⟨a,xs,rfl,h1,_⟩:=h;obtain⟨b,ys,rfl,h3,_⟩:=h';cases r;cases r';obtain⟨its,r1,p1,_⟩:=I.tuple h1;obtain⟨its2,r2,p2,_⟩:=I.list h3;rw [show D.eq (.tp l) (.ls m)=false by simp [D.eq]];exact⟨.tuple_list p1 p2.isList hu',.tuple_list p1 p2.isList hu'⟩
 | .ls l,.tp m,h,h',hu=>
  obtain⟨a,xs,rfl,h1,_⟩:=h;obtain⟨b,ys,rfl,h3,_⟩:=h';cases r;cases r';obtain⟨its,r1,p1,_⟩:=I.list h1;obtain⟨its2,r2,p2,_⟩:=I.tuple h3;rw [show D.eq (.ls l) (.tp m)=false by simp [D.eq]];exact⟨.list_tuple p1.isList p2 hu',.list_tuple p1.isList p2 hu'⟩
 | .tp l,.tp m,h,h',hu=>
  obtain⟨a,xs,rfl,h1,h2⟩:=h;obtain⟨b,ys,rfl,h3,h4⟩:=h';cases r;cases r';obtain⟨its,r1,p1,_⟩:=I.tuple h1;obtain⟨its2,r2,p2,_⟩:=I.tuple h3;rw [D.dep,D.dep]at hu;obtain⟨e,he,ee⟩:=vR (A:=A.in1) I l m r1 r2 h2 h4 (by show A.units+1+_+_<_;omega);have hj:∀j (g1:j<its.toArray.size) (g2:j<its2.toArray.size),Ib A.in1 s its.toArray[j] its2.toArray[j] (e j):=λj g1 g2=>by
   have:=he j (by simpa using g1) (by simpa using g2);simpa using this
  have k1:=Ng p1 p2 hu' hj;have k2:=Ue p1 p2 hu' hj;rw [Al,Al,ee]at k1 k2;rw [D.eq];exact⟨k1,k2⟩
 | .ls l,.ls m,h,h',hu=>
  obtain⟨a,xs,rfl,h1,h2⟩:=h;obtain⟨b,ys,rfl,h3,h4⟩:=h';cases r;cases r';obtain⟨its,r1,p1,_⟩:=I.list h1;obtain⟨its2,r2,p2,_⟩:=I.list h3;rw [D.dep,D.dep]at hu;obtain⟨e,he,ee⟩:=vR (A:=A.in1) I l m r1 r2 h2 h4 (by show A.units+1+_+_<_;omega);have hj:∀j (g1:j<its.toArray.size) (g2:j<its2.toArray.size),Ib A.in1 s its.toArray[j] its2.toArray[j] (e j):=λj g1 g2=>by
   have:=he j (by simpa using g1) (by simpa using g2);simpa using this
  rw [D.eq];by_cases hz:its.toArray.size=its2.toArray.size
  ·have k1:=Nv p1.isList p2.isList hz hu' hj;have k2:=Ug p1.isList p2.isList hz hu' hj;rw [Al,Al]at hz;rw [<-hz,Vd,beq_self_eq_true,Sm]at ee;rw [Al,ee]at k1 k2;exact⟨k1,k2⟩
  ·have hb':(its.length==its2.length)=false:=by simpa using hz
   rw [hb',Gx]at ee;rw [<-ee];exact⟨.lists_lengths p1.isList p2.isList (by simpa using hz) hu',.lists_lengths p1.isList p2.isList (by simpa using hz) hu'⟩
def Den.inj (I:Inv X pins σ H s):∀(d:D) (e:D) {v:V},Den X.K H d v->Den X.K H e v->d=e:=by
 have key:∀(n:Nat) (d e:D) {v:V},d.dep<=n->Den X.K H d v->Den X.K H e v->d=e:=by
  intro n;induction n with
  |zero=>
   intro d e v hn h h';match d,e,h,h',hn with
   | .fl x,.fl y,h,h',_=>rw [<-h.1, <-h'.1]
   | .fl x,.tp m,h,h',_=>obtain⟨rfl,f⟩:=h;obtain⟨a,xs,rfl,_⟩:=h';exact absurd (show false=true from f) Aj
   | .fl x,.ls m,h,h',_=>obtain⟨rfl,f⟩:=h;obtain⟨a,xs,rfl,_⟩:=h';exact absurd (show false=true from f) Aj
   | .tp l,_,_,_,hn=>rw [D.dep]at hn;omega
   | .ls l,_,_,_,hn=>rw [D.dep]at hn;omega
  |succ n ih=>
   have items:∀(l m:List D) {xs:List V},D.deps l<=n->wC X.K H l xs->wC X.K H m xs->l=m:=by
    intro l;induction l with
    |nil=>
     intro m xs _ h h';cases (show xs=[]from h);cases m with
     |nil=>rfl
     |cons e m=>obtain⟨y,t,q,_⟩:=h';cases q
    |cons d l il=>
     intro m xs hn h h';obtain⟨x,t,rfl,h1,h2⟩:=h;cases m with
     |nil=>cases (show(x::t)=[]from h')
     |cons e m=>
      obtain⟨y,t',q,h3,h4⟩:=h';cases q;rw [D.deps]at hn;have a1:=Jl d.dep (D.deps l);have a2:=Iw d.dep (D.deps l);rw [ih d e (by omega) h1 h3,il m (by omega) h2 h4]
   intro d e v hn h h';match d,e,h,h',hn with
   | .fl x,.fl y,h,h',_=>rw [<-h.1, <-h'.1]
   | .fl x,.tp m,h,h',_=>obtain⟨rfl,f⟩:=h;obtain⟨a,xs,rfl,_⟩:=h';exact absurd (show false=true from f) Aj
   | .fl x,.ls m,h,h',_=>obtain⟨rfl,f⟩:=h;obtain⟨a,xs,rfl,_⟩:=h';exact absurd (show false=true from f) Aj
   | .tp m,.fl x,h',h,_=>obtain⟨rfl,f⟩:=h;obtain⟨a,xs,rfl,_⟩:=h';exact absurd (show false=true from f) Aj
   | .ls m,.fl x,h',h,_=>obtain⟨rfl,f⟩:=h;obtain⟨a,xs,rfl,_⟩:=h';exact absurd (show false=true from f) Aj
   | .tp l,.ls m,h,h',_=>obtain⟨a,xs,rfl,h1,_⟩:=h;obtain⟨b,ys,e,h3,_⟩:=h';cases e;exact(I.not_both h3 h1).elim
   | .ls l,.tp m,h,h',_=>obtain⟨a,xs,rfl,h1,_⟩:=h;obtain⟨b,ys,e,h3,_⟩:=h';cases e;exact(I.not_both h1 h3).elim
   | .tp l,.tp m,h,h',hn=>
    obtain⟨a,xs,rfl,h1,h2⟩:=h;obtain⟨b,ys,e,h3,h4⟩:=h';cases e;rw [I.tuple_inj h3 h1]at h4;rw [D.dep]at hn;rw [items l m (by omega) h2 h4]
   | .ls l,.ls m,h,h',hn=>
    obtain⟨a,xs,rfl,h1,h2⟩:=h;obtain⟨b,ys,e,h3,h4⟩:=h';cases e;rw [I.list_inj h3 h1]at h4;rw [D.dep]at hn;rw [items l m (by omega) h2 h4]
 exactλd e v h h'=>key _ d e (Am _) h h'
inductive aS0 (K:Ac) (neg:Bool) (x:V) (y:V) (H:Hp) (Q:VK):Prop
 |mk (d e:_) (q0_:Den K H d x) (q1_:Den K H e y) (q2_:d.dep+e.dep<=100) (q3_:Q (.bl (if neg then !d.eq e else d.eq e)) H):aS0 K neg x y H Q
def aWr (K:Ac) (neg:Bool):R2:=λx y H Q=>aS0 K neg x y H Q
def lA (hu:X.A.units+101<cLine):OpR X (compareOp .Eq) (aWr X.K false):=by
 intro pins s σ H x y v u Q I rx ry h;obtain⟨d,e,h1,h2,hd,q⟩:=h;exact(aNs (A:=X.A) I d e rx ry h1 h2 (by omega)).1 _ _ _ _ ⟨.bl _,H,I,rfl,q⟩
def wX (hu:X.A.units+101<cLine):OpR X (compareOp .NotEq) (aWr X.K true):=by
 intro pins s σ H x y v u Q I rx ry h;obtain⟨d,e,h1,h2,hd,q⟩:=h;exact(aNs (A:=X.A) I d e rx ry h1 h2 (by omega)).2 _ _ _ _ ⟨.bl _,H,I,rfl,q⟩
inductive aTm (K:Ac) (neg:Bool) (x:V) (y:V) (H:Hp) (Q:VK):Prop
 |mk (d p xs l:_) (q0_:Den K H d x) (q1_:y= .ref p) (q2_:(SqL K H p xs∨SqT K H p xs)) (q3_:wC K H l xs) (q4_:d.dep+D.deps l<=99) (q5_:Q (.bl (if neg then !(l.any λe=>e.eq d)else l.any λe=>e.eq d)) H):aTm K neg x y H Q
def aWc (K:Ac) (neg:Bool):R2:=λx y H Q=>aTm K neg x y H Q
open Classical in
def sE (I:Inv X pins σ H s) {d:D} {x:V} {v:Value} (rx:RelV x v) (hx:Den X.K H d x) {A:Around}:∀{l:List D} {xs:List V} {us:List Value},Vals xs us->wC X.K H l xs->A.units+d.dep+D.deps l<cLine->
  ∃e:Value->Bool,(e=λw=>decide (∃d' x',RelV x' w/\Den X.K H d' x'/\d'.eq d=true))/\(∀w∈us,Ib A s w v (e w))/\us.any e=l.any λe=>e.eq d:=by
 intro l;induction l with
 |nil=>
  intro xs us r h hu;cases (show xs=[]from h);cases r;exact⟨_,rfl,λw hw=>(by cases hw),rfl⟩
 |cons d0 l ih=>
  intro xs us r h hu;obtain⟨x0,t,rfl,h1,h2⟩:=h;cases r with
  |@cons _ u0 _ us0 r0 rr=>
  rw [D.deps]at hu;have a1:=Jl d0.dep (D.deps l);have a2:=Iw d0.dep (D.deps l);obtain⟨e,ee,i1,i2⟩:=ih rr h2 (by omega);have e0:e u0=d0.eq d:=by
   rw [ee];by_cases hq:d0.eq d=true
   ·rw [hq];exact decide_eq_true ⟨d0,x0,r0,h1,hq⟩
   ·rw [Bool.not_eq_true]at hq;rw [hq];refine decide_eq_false ?_;rintro⟨d',x',r',h',q'⟩;cases RelV.inj r' r0;rw [Den.inj I d' d0 h' h1,hq]at q';cases q'
  refine⟨e,ee,λw hw=>?_,?_⟩
  ·rcases List.mem_cons.mp hw with rfl|hw
   ·rw [e0];exact aPz I d0 d r0 rx h1 hx (by omega)
   ·exact i1 w hw
  ·rw [Dw,Dw,i2,e0]
def aMu (hu:X.A.units+101<cLine):OpR X (compareOp .In) (aWc X.K false):=by
 intro pins s σ H x y v u Q I rx ry h;obtain⟨d,p,xs,l,h1,rfl,hq,h2,hd,q⟩:=h;cases ry;rcases hq with hq|hq
 ·obtain⟨its,r,pl,hz⟩:=I.list hq;obtain⟨e,_,i1,i2⟩:=sE (A:=X.A.in1) I rx h1 r h2 (by show X.A.units+1+_+_<_;omega);refine SeqAt.in_listAt e pl.isList (λw hw=>i1 w (by simpa using hw)) ⟨.bl _,H,I,rfl,?_⟩;rw [show its.toArray.any e=its.any e by simp,i2];exact q
 ·obtain⟨its,r,pl,hz⟩:=I.tuple hq;obtain⟨e,_,i1,i2⟩:=sE (A:=X.A.in1) I rx h1 r h2 (by show X.A.units+1+_+_<_;omega);refine SeqAt.in_tupleAt e pl (λw hw=>i1 w (by simpa using hw)) ⟨.bl _,H,I,rfl,?_⟩;rw [show its.toArray.any e=its.any e by simp,i2];exact q
def wK (hu:X.A.units+101<cLine):OpR X (compareOp .NotIn) (aWc X.K true):=by
 intro pins s σ H x y v u Q I rx ry h;obtain⟨d,p,xs,l,h1,rfl,hq,h2,hd,q⟩:=h;cases ry;rcases hq with hq|hq
 ·obtain⟨its,r,pl,hz⟩:=I.list hq;obtain⟨e,_,i1,i2⟩:=sE (A:=X.A.in1) I rx h1 r h2 (by show X.A.units+1+_+_<_;omega);refine Pg e pl.isList (λw hw=>i1 w (by simpa using hw)) ⟨.bl _,H,I,rfl,?_⟩;rw [show its.toArray.any e=its.any e by simp,i2];exact q
 ·obtain⟨its,r,pl,hz⟩:=I.tuple hq;obtain⟨e,_,i1,i2⟩:=sE (A:=X.A.in1) I rx h1 r h2 (by show X.A.units+1+_+_<_;omega);refine Ot e pl (λw hw=>i1 w (by simpa using hw)) ⟨.bl _,H,I,rfl,?_⟩;rw [show its.toArray.any e=its.any e by simp,i2];exact q
end
mutual
def uJ (Av:Addr->Prop) (H:Hp):D->V->Prop
 | .fl x,v=>v=x/\jG x=true
 | .tp l,v=>∃p xs,v= .ref p/\H p=some (.tup xs)/\eX Av H l xs
 | .ls l,v=>∃p xs,v= .ref p/\¬Av p/\H p=some (.lst xs)/\eX Av H l xs
def eX (Av:Addr->Prop) (H:Hp):List D->List V->Prop
 | [],xs=>xs=[]
 |d::l,xs=>∃x r,xs=x::r/\uJ Av H d x/\eX Av H l r
end
variable {Av:Addr->Prop} {H H':Hp}
mutual
theorem uJ.mono (k1:∀b xs,H b=some (.tup xs)->H' b=some (.tup xs)) (k2:∀b xs,¬Av b->H b=some (.lst xs)->H' b=some (.lst xs)):∀(d:D) {v:V},uJ Av H d v->uJ Av H' d v
 | .fl x,v,h=>h
 | .tp l,v,h=>by
  obtain⟨p,xs,e,hp,t⟩:=h;exact⟨p,xs,e,k1 _ _ hp,eX.mono k1 k2 l t⟩
 | .ls l,v,h=>by
  obtain⟨p,xs,e,n,hp,t⟩:=h;exact⟨p,xs,e,n,k2 _ _ n hp,eX.mono k1 k2 l t⟩
theorem eX.mono (k1:∀b xs,H b=some (.tup xs)->H' b=some (.tup xs)) (k2:∀b xs,¬Av b->H b=some (.lst xs)->H' b=some (.lst xs)):∀(l:List D) {xs:List V},eX Av H l xs->eX Av H' l xs
 | [],xs,h=>h
 |d::l,xs,h=>by
  obtain⟨x,r,e,h1,h2⟩:=h;exact⟨x,r,e,uJ.mono k1 k2 d h1,eX.mono k1 k2 l h2⟩
end
mutual
theorem uJ.den (K:Ac):∀(d:D) {v:V},uJ Av H d v->Den K H d v
 | .fl x,v,h=>h
 | .tp l,v,h=>by
  obtain⟨p,xs,e,hp,t⟩:=h;exact⟨p,xs,e,SqT.of hp,eX.dens K l t⟩
 | .ls l,v,h=>by
  obtain⟨p,xs,e,n,hp,t⟩:=h;exact⟨p,xs,e,SqL.of hp,eX.dens K l t⟩
theorem eX.dens (K:Ac):∀(l:List D) {xs:List V},eX Av H l xs->wC K H l xs
 | [],xs,h=>h
 |d::l,xs,h=>by
  obtain⟨x,r,e,h1,h2⟩:=h;exact⟨x,r,e,uJ.den K d h1,eX.dens K l h2⟩
end
mutual
theorem uJ.weak {Bv:Addr->Prop} (k:∀b,Bv b->Av b):∀(d:D) {v:V},uJ Av H d v->uJ Bv H d v
 | .fl x,v,h=>h
 | .tp l,v,h=>by
  obtain⟨p,xs,e,hp,t⟩:=h;exact⟨p,xs,e,hp,eX.weak k l t⟩
 | .ls l,v,h=>by
  obtain⟨p,xs,e,n,hp,t⟩:=h;exact⟨p,xs,e,λz=>n (k p z),hp,eX.weak k l t⟩
theorem eX.weak {Bv:Addr->Prop} (k:∀b,Bv b->Av b):∀(l:List D) {xs:List V},eX Av H l xs->eX Bv H l xs
 | [],xs,h=>h
 |d::l,xs,h=>by
  obtain⟨x,r,e,h1,h2⟩:=h;exact⟨x,r,e,uJ.weak k d h1,eX.weak k l h2⟩
end
mutual
theorem uJ.refl:∀(d:D) {v:V},uJ Av H d v->d.eq d=true
 | .fl x,v,h=>by
  rw [D.eq];exact aF1 h.2
 | .tp l,v,h=>by
  obtain⟨p,xs,e,hp,t⟩:=h;rw [D.eq];exact eX.refl l t
 | .ls l,v,h=>by
  obtain⟨p,xs,e,n,hp,t⟩:=h;rw [D.eq];exact eX.refl l t
theorem eX.refl:∀(l:List D) {xs:List V},eX Av H l xs->D.eqs l l=true
 | [],xs,h=>by rw [D.eqs]
 |d::l,xs,h=>by
  obtain⟨x,r,e,h1,h2⟩:=h;rw [D.eqs,uJ.refl d h1,eX.refl l h2];rfl
end
def aU4 {H H1:Hp} {o:HO} (h:H p=none) (e:upd H p o=H1):fC H H1/\H1 p=some o:=by
 subst e;refine⟨λb u q=>?_,aJ⟩;rw [aM (aQ q h)];exact q
structure Cal (P:Program) (w:World) (K:Ac) (mg:Str->Option Value) (base:Heap) (CX:CXT) (k:Nat) (x:Str) (ps:List Str) (sp:Sp):Prop where
 ex:∃f fd,bB P w K mg base CX k f fd ps sp/\mg x=some (.ref f)/\Fs K (.ref f)=true/\Binds K fd ps []
def aV5 {X:Cx} {CX:CXT} {sp:Sp} {E:XK} {e:Expr} {es:List Expr} {t:TA} {p pos:Pos} (C:Cal X.prog X.w X.K X.mg X.base CX k x ps sp) (hr:dH k X.A) (hg:Gl X x) (hx:pH CX X E)
  (ha:PA X (e::es) t) (hdb:(x==("__debug__":Str))=false:=by decide) (he:starEach (e::es) X.env=(false,eval e X.env)::starEach es X.env:=by rfl) (hpl:(backTo pos (starEach es X.env)).any (·.1)=false:=by rfl):
  PE X (.Call (.Name x p) (e::es) [] pos) (aTb sp [] E t):=by
 obtain⟨f,fd,F,hm,hk,hb⟩:=C.ex;exact aRt F hr hg hm hk hb .nil hx ha hdb he hpl
abbrev uL (scope sc0:Scope) (cap:List (Str×Nat)) (N:List Str):Prop:=scope.kind= .function/\(∀y∈scope.names,y.2≠ .cell)/\(∀y∈scope.names,y.2= .local->scope.names.lookup y.1=some .local)/\
 (∀y∈scope.names,y.2= .free->sc0.names.lookup y.1=some .cell)/\(∀p∈cap,N[p.2]? =some p.1/\scope.names.lookup p.1=some .free/\sc0.names.lookup p.1=some .cell)
def aO6 {cap:List (Str×Nat)} {sc0:Scope} {N0:List Str} (hs:X.env.scope=sc0) (hN:X.N=N0) (hcell:∀x,X.env.scope.names.lookup x=some .cell->∃c,X.env.cells.lookup x=some c) (ok:uL scope sc0 cap N0):∃cl,iH X scope cap cl:=by
 subst hs hN;exact aG4 hcell ok.1 ok.2.1 ok.2.2.1 ok.2.2.2.1 ok.2.2.2.2
def aSj {own:List Str} {cap:List (Str×Nat)} (sc0:Scope) (N0:List Str) (hsc:X.env.scope=sc0) (hN:X.N=N0) (hcell:∀x,X.env.scope.names.lookup x=some .cell->∃c,X.env.cells.lookup x=some c)
  (ok:uL scope sc0 cap N0) (hc:X.calm=true) (hi:PI X tg iter wi)
  (hg:∀cl C s2 H2 fp,PG (bR X (eE own cap) scope cl C s2 H2 fp) tg g) (he:∀cl C s2 H2 fp,PE (bR X (eE own cap) scope cl C s2 H2 fp) elt te)
  (hs:∀x,foldedSetIterable iter X.env x=pure x:=by intro _;rfl):PE X (.ListComp elt [⟨tg,iter,[],0⟩] scope pos) (aBv own.length cap wi g te):=by
 obtain⟨cl,S⟩:=aO6 hsc hN hcell ok;exact aI7 S hc hi (hg cl) (he cl) hs
def aVc {elt iter tg ci:Expr} {own:List Str} {cap:List (Str×Nat)} (sc0:Scope) (N0:List Str) (hsc:X.env.scope=sc0) (hN:X.N=N0) (hcell:∀x,X.env.scope.names.lookup x=some .cell->∃c,X.env.cells.lookup x=some c)
  (ok:uL scope sc0 cap N0) (hc:X.calm=true) (hi:PI X tg iter wi)
  (hg:∀cl C s2 H2 fp,PG (bR X (eE own cap) scope cl C s2 H2 fp) tg g) (htc:∀cl C s2 H2 fp,PT (bR X (eE own cap) scope cl C s2 H2 fp) ci tc) (he:∀cl C s2 H2 fp,PE (bR X (eE own cap) scope cl C s2 H2 fp) elt te)
  (hs:∀x,foldedSetIterable iter X.env x=pure x:=by intro _;rfl):PE X (.ListComp elt [⟨tg,iter,[ci],0⟩] scope pos) (aG3 own.length cap wi g tc te):=by
 obtain⟨cl,S⟩:=aO6 hsc hN hcell ok;exact aPp S hc hi (hg cl) (htc cl) (he cl) hs
def aZc {own:List Str} {cap:List (Str×Nat)} {pos spos py:Pos} (hnd:X.N.Nodup) (hi':X.N[i]? =some x) (hx:Loc X.env.scope x)
  (sc0:Scope) (N0:List Str) (hsc:X.env.scope=sc0) (hN:X.N=N0) (hcell:∀x,X.env.scope.names.lookup x=some .cell->∃c,X.env.cells.lookup x=some c)
  (ok:uL scope sc0 cap N0) (hc:X.calm=true) (hi:PI X tg iter wi)
  (hg:∀cl C s2 H2 fp,PG (bR X (eE own cap) scope cl C s2 H2 fp) tg g) (he:∀cl C s2 H2 fp,PE (bR X (eE own cap) scope cl C s2 H2 fp) elt te)
  (hsw:swapsWith (.ListComp elt [⟨tg,iter,[],0⟩] scope pos) (some (.Name x py)) spos.line X.env=pure true:=by rfl)
  (hs:∀x,foldedSetIterable iter X.env x=pure x:=by intro _;rfl) (hf:X.fn x=true∨X.env.scope.names.lookup x=some .local:=by first|exact .inl rfl|exact .inr rfl|assumption):
  PS X (.Assign [.Name x py] (.ListComp elt [⟨tg,iter,[],0⟩] scope pos) spos) (aSh (aBv own.length cap wi g te) (vQ i)):=by
 obtain⟨cl,S⟩:=aO6 hsc hN hcell ok;exact aIj hnd hi' hx S hc hi (hg cl) (he cl) hsw hs hf
section
variable {α:Type} {A B:List (Str×α)} {x:Str} {c:α}
end
section
variable {prog:Program} {w:World} {A:Around} {R:Result->Shared->Prop} {s:Shared}
end
abbrev yL (scope:Scope):Prop:=scope.kind= .function/\∀y∈scope.names,y.2≠ .cell/\y.2≠ .free/\(y.2= .local->scope.names.lookup y.1=some .local)
def aVp (ok:yL scope):∃cl,iH X scope [] cl:=by
 obtain⟨k,nm⟩:=ok;obtain⟨cl,e,a,b⟩:=sI X.env scope.names [] (λy hy hf=>((nm y hy).2.1 hf).elim) (λx c h=>by simp at h);refine⟨cl,?_,k,λy hy=>(nm y hy).1,λy hy=>(nm y hy).2.2,a,λx hx=>b x (.inr (Dd hx)),λp hp=>nomatch hp⟩;unfold closureFor;refine Eq.trans ?_ e;simp only [bind_pure]
def aPu {own:List Str} (ok:yL scope) (hc:X.calm=true) (hi:PI X tg iter wi)
  (hg:∀cl C s2 H2 fp,PG (bR X (eE own []) scope cl C s2 H2 fp) tg g) (he:∀cl C s2 H2 fp,PE (bR X (eE own []) scope cl C s2 H2 fp) elt te)
  (hs:∀x,foldedSetIterable iter X.env x=pure x:=by intro _;rfl):PE X (.ListComp elt [⟨tg,iter,[],0⟩] scope pos) (aBv own.length [] wi g te):=by
 obtain⟨cl,S⟩:=aVp ok;exact aI7 S hc hi (hg cl) (he cl) hs
variable {B:St->Hp->Prop} {R:Hp->V->Prop}
def aN4 (K:Ac):List V->Hp->VK->Prop:=λxs H Q=>∃p ys,xs=[.ref p]/\(SqL K H p ys∨SqT K H p ys)/\∀l,H l=none->Q (.ref l) (upd H l (.lst ys))
def aIt (K:Ac):List V->Hp->VK->Prop:=λxs H Q=>∃p ys,xs=[.ref p]/\((SqL K H p ys/\∀l,H l=none->Q (.ref l) (upd H l (.tup ys)))∨(SqT K H p ys/\Q (.ref p) H))
def mD {X:Cx} {K:Ac} (h:X.K=K):eF X (.type "list") (aN4 K):=by
 subst h;exact aD3
def xF {X:Cx} {K:Ac} (h:X.K=K):eF X (.type "tuple") (aIt K):=by
 subst h;exact tL
def aYp (_ j:Int):Prop:=0<j/\j<2 ^ 62
def aOq:OpR X (binaryOp .FloorDiv) (rI aYp λi j=> .int (i / j)):=opI λi j _ _ _ _ _ hc q=>by
 have h1:(0:Int)<j:=hc.1;have h2:j<2 ^ 62:=hc.2;refine floordiv_int (by omega) (by rw [Mr i (by omega)];exact q) (.inl (PyProof.noPylong_of_log2 ?_));have h3:j.natAbs<2 ^ 62:=by omega
 have:=(Vu (by omega)).mpr h3;omega
variable {K:Ac}
def lH (P:Program) (w:World) (a:Addr) (xs:List ((Int×List Int)×Addr)) (h:Heap):Prop:=∃o es ep t,h.get? a=some o/\o.ExactSet/\o.data= .set es ep t/\es.toList=xs.map (λx=>((dZ (intKind P w)).hash x.1,An x.2))/\t.Good/\t.place.size=es.size/\(xs.map (·.1)).Nodup/\
 (∀(i j:Nat) (x:(Int×List Int)×Addr),t.place[i]? =some j->xs[i]? =some x->SetTable.rR t ((dZ (intKind P w)).hash x.1) j)/\t.Small/\t.plain=true/\t.led= !w.params.followText "set-order"
def TKy (H:Hp) (x:List Int×Addr):Prop:=H x.2=some (.tup (x.1.map V.int))
def PKy (H:Hp) (x:(Int×List Int)×Addr):Prop:=∃q,H x.2=some (.tup [.int x.1.1,.ref q])/\TKy H (x.1.2,q)
section
variable {P:Program} {w:World} {H:Hp} {h:Heap} {a:Addr} {s:Shared} {xs:List ((Int×List Int)×Addr)}
def lH.stay (h1 h2:Heap) (p:lH P w a xs h1) (k:∀o,h1.get? a=some o->h2.get? a=some o):lH P w a xs h2:=let⟨o,es,ep,t,e,c⟩:=p;⟨o,es,ep,t,k _ e,c⟩
def lH.of (I:lF (dZ (intKind P w)) s a (!w.params.followText "set-order") xs):lH P w a xs s.heap:=by
 obtain⟨o,es,ep,t,S,r1,r2,r3⟩:=I;exact⟨o,es,ep,t,S.ho,S.hex,S.hd,S.he,S.good,S.size,S.nd,S.way,r1,r2,r3⟩
def lH.is (I:lH P w a xs s.heap) (keys:∀x∈xs,bI (intKind P w) s.heap x.1 x.2):lF (dZ (intKind P w)) s a (!w.params.followText "set-order") xs:=by
 obtain⟨o,es,ep,t,a1,a2,a3,a4,a5,a6,a7,a8,r1,r2,r3⟩:=I;exact⟨o,es,ep,t,⟨a1,a2,a3,a4,a5,a6,keys,a7,a8⟩,r1,r2,r3⟩
def aKu {ns:List Int}:∀{us:List Value},Vals (ns.map V.int) us->ItemsAre (intKind P w) ns us:=by
 induction ns with
 |nil=>intro us r;rw [Dn]at r;cases r;exact .nil
 |cons n ns ih=>
  intro us r;rw [Aw]at r;cases r with
  |@cons _ v _ _ r1 t=>
   obtain⟨tk,rfl⟩:=r1;exact .cons (by show Ih n (.int n tk)=true;simp [Ih]) (ih t)
def aRm {x:List Int×Addr} (ok:HOk P w H h) (e:TKy H x):IsTupleKey (intKind P w) h x.1 x.2:=by
 obtain⟨_,its,r,o,h1,h2,n,h3⟩:=(show cL P w H h x.2 (.tup (x.1.map V.int))from ok _ _ e);exact⟨o,its.toArray,n,h1,h2,h3,aKu r⟩
def pF {x:(Int×List Int)×Addr} (ok:HOk P w H h) (e:PKy H x):bI (intKind P w) h x.1 x.2:=by
 obtain⟨q,e1,e2⟩:=e;obtain⟨_,its,r,o,h1,h2,n,h3⟩:=(show cL P w H h x.2 (.tup [.int x.1.1,.ref q])from ok _ _ e1);obtain⟨u,v,rfl,ru,rv⟩:=vals2 r;obtain⟨tk,rfl⟩:=ru;obtain rfl:v=An q:=rv;exact⟨o,_,q,n,h1,h2,h3,(by show Ih _ (.int _ tk)=true;simp [Ih]),aRm ok e2⟩
end
theorem aA2:∀{ps:List ((Int×List Int)×Addr)} {us:List Value},Vals (ps.map λx=>V.ref x.2) us->us=ps.map λx=>An x.2
 | [],_,.nil=>rfl
 |_::_,_,.cons (r1:_=An _) t=>by subst r1;rw [Aw,aA2 t]
theorem tY:∀{ps:List ((Int×List Int)×Addr)},Vals (ps.map λx=>V.ref x.2) (ps.map λx=>An x.2)
 | []=> .nil
 |_::_=> .cons rfl tY
inductive aL8 (P:Program) (w:World) (K:Ac) (xs:List V) (H:Hp) (Q:VK):Prop
 |mk (p:Addr) (ps:List ((Int×List Int)×Addr)) (q0_:xs=[.ref p]) (q1_:SqL K H p (ps.map λx=>V.ref x.2)) (q2_:(∀x∈ps,PKy H x)) (q3_:ps.length<=1000) (q4_:(∃ks:List (Int×List Int),ks.length<18/\∀x∈ps,x.1∈ks)) (q5_:∀(l:Addr) (zs:List ((Int×List Int)×Addr)),H l=none->(zs.map (·.1)).Nodup->(∀x∈zs,x∈ps)->(∀x∈ps,∃z∈zs,z.1=x.1)->zs.length<=ps.length->Q (.ref l) (upd H l (.ext (lH P w l zs)))):aL8 P w K xs H Q
def aXa (P:Program) (w:World) (K:Ac):List V->Hp->VK->Prop:=λxs H Q=>aL8 P w K xs H Q
inductive aCn (P:Program) (w:World) (xs:List V) (H:Hp) (Q:VK):Prop
 |mk (p:Addr) (ps:List ((Int×List Int)×Addr)) (q0_:xs=[.ref p]) (q1_:H p=some (.ext (lH P w p ps))) (q2_:(∀x∈ps,PKy H x)) (q3_:ps.length<64) (q4_:∀(l:Addr) (ys:List ((Int×List Int)×Addr)),H l=none->ys.Perm ps->ys.Pairwise (λx y=>mO x.1 y.1=true)->Q (.ref l) (upd H l (.lst (ys.map λx=>V.ref x.2)))):aCn P w xs H Q
def aQf (P:Program) (w:World):List V->Hp->VK->Prop:=λxs H Q=>aCn P w xs H Q
def aKm (hu:X.A.units+20<cLine) (hc:X.calm=true):eF X (.type "set") (aXa X.prog X.w X.K):=by
 intro pins s σ H xs us Q I r h;obtain⟨p,ps,rfl,hq,hk,hln,⟨ks,kl,km⟩,q⟩:=h;obtain⟨u,rfl,ru⟩:=vals1 r;cases ru;obtain⟨its,rv,pl,hz⟩:=I.list hq;have ei:=aA2 rv;have hlen:its.length=ps.length:=by rw [ei,Ab]
 have at_:∀i,i<ps.length->ps.getD i ((0,[]),0)∈ps:=λi hi=>by simp [Ls,hi]
 refine aAv (knd:=dZ (intKind X.prog X.w)) (items:=its.toArray) (val:=λi=>(ps.getD i ((0,[]),0)).1) (adr:=λi=>(ps.getD i ((0,[]),0)).2) (aNa λk v hv=>?_) (λA' hA=>?_) (I.ok.hd hc) pl.isList (λi v hv=>?_) (λj hj=>?_) (λi xs hi M nd=>?_) λh' tk zs S M hk'=>?_
 ·obtain⟨t,rfl⟩:=Ds hv;exact⟨_,_,rfl⟩
 ·show A'.units+1<cLine;omega
 ·have hi:i<its.toArray.size:=(Array.getElem?_eq_some_iff.mp hv).1;rw [Al,hlen]at hi;rw [Jd,ei]at hv;simp [hi]at hv;rw [<-hv];simp [Ls,hi]
 ·rw [Al,hlen]at hj;exact pF I.hok (hk _ (at_ j hj))
 ·rw [Al,hlen]at hi;have:=nd.length_le_of_subset (l₂:=ks) λk hk=>by
   obtain⟨x,hx,rfl⟩:=List.mem_map.mp hk;obtain⟨j,hj,e⟩:=M.from' x hx;rw [e];exact km _ (at_ j (by omega))
  rw [Ab]at this;omega
 ·have kp:∀b o,s.heap.get? b=some o->h'.get? b=some o:=λb o e=>hk' b o (Ap e) e;have so:=lH.of S;have nd:(zs.map (·.1)).Nodup:=by obtain⟨_,_,_,_,S,_⟩:=S;exact S.nd
  refine⟨.ref s.heap.objs.size,_,I.laid (t':=tk) (o:= .ext (lH X.prog X.w s.heap.objs.size zs)) kp (Am _) ⟨so,?_,λh1 h2 p k=>lH.stay h1 h2 p k⟩,rfl,q _ zs (I.hok.fresh (Am _)) nd (λx hx=>?_) (λx hx=>?_) ?_⟩
  ·obtain⟨o,_,_,_,e,_⟩:=so;exact⟨o,e⟩
  ·obtain⟨j,hj,e⟩:=M.from' x hx;rw [Al,hlen]at hj;rw [e];exact at_ j hj
  ·obtain⟨j,hj,e⟩:=Hq hx;obtain⟨z,hz,ez⟩:=M.all j (by rw [Al,hlen];exact hj);refine⟨z,hz,?_⟩;rw [ez, <-e];simp [Ls,hj]
  ·have:=M.len;rw [Al,hlen]at this;exact this
def aDk (hu:X.A.units+40<cLine) (hc:X.calm=true):eF X (.builtin "sorted") (aQf X.prog X.w):=by
 intro pins s σ H xs us Q I r h;obtain⟨p,ps,rfl,hp,hk,h64,q⟩:=h;obtain⟨u,rfl,ru⟩:=vals1 r;cases ru;obtain⟨so,_,_⟩:=(show cL X.prog X.w H s.heap p (.ext (lH X.prog X.w p ps))from I.hok p _ hp);refine aHw (aJy λk v hv=>by obtain⟨t,rfl⟩:=Ds hv;exact⟨_,_,rfl⟩) (by omega) (I.ok.hd hc) (so.is λx hx=>pF I.hok (hk x hx)) (λ_ _=>trivial) h64 λh' tk l e ys py hy hl hg kp=>?_;refine⟨.ref l,_,I.laid (t':=tk) (o:= .lst (ys.map λx=>V.ref x.2)) kp hl ⟨?_,_,e,tY,hg⟩,rfl,q l ys (I.hok.fresh hl) py hy⟩;rw [Ab,py.length_eq,Cr];omega
def aCb (w:World) (a:Addr) (x:Nat) (b:Bool) (h:Heap):Prop:=∃o ep tk,h.get? a=some o/\o.ExactSet/\o.data= .set (jD (zs1 x b) tk) ep (aBa (!w.params.followText "set-order") (zs1 x b))
def xK (l:List Nat):List V:=l.map λk:Nat=> .int (k:Int)
inductive aOg (w:World) (K:Ac) (xs:List V) (H:Hp) (Q:VK):Prop
 |mk (p:Addr) (ns:List Nat) (x:Nat) (q0_:xs=[.ref p]) (q1_:SqL K H p (xK ns)) (q2_:(∀n∈ns,n=x)) (q3_:x∈[1,2,3]) (q4_:∀l:Addr,H l=none->Q (.ref l) (upd H l (.ext (aCb w l x (decide (0<ns.length)))))):aOg w K xs H Q
def aYd (w:World) (K:Ac):List V->Hp->VK->Prop:=λxs H Q=>aOg w K xs H Q
inductive aB0 (w:World) (xs:List V) (H:Hp) (Q:VK):Prop
 |mk (p:Addr) (x:Nat) (b:Bool) (q0_:xs=[.ref p]) (q1_:H p=some (.ext (aCb w p x b))) (q2_:x∈[1,2,3]) (q3_:∀l,H l=none->Q (.ref l) (upd H l (.lst (xK (zs1 x b))))):aB0 w xs H Q
def aL1 (w:World):List V->Hp->VK->Prop:=λxs H Q=>aB0 w xs H Q
theorem aFg {x:Nat}:∀{ns:List Nat} {us:List Value},(∀n∈ns,n=x)->Vals (xK ns) us->∀(i:Nat) (v:Value),us[i]? =some v->∃t,v= .int x t
 | [],_,_,.nil,i,v,h=>by simp at h
 |n::ns,u::us,hn,.cons r t,0,v,h=>by
  obtain⟨tk,e⟩:=r;have:u=v:=by simpa using h
  exact⟨tk,by rw [<-this,e, <-hn n Ae]⟩
 |n::ns,u::us,hn,.cons r t,i+1,v,h=>aFg (λm hm=>hn m (Ad _ hm)) t i v (by simpa using h)
def aFa {α β:Type} {f:α->β} {l:List β} {xs:List α} (hp:l.Perm (xs.map f)):∃zs:List α,zs.Perm xs/\l=zs.map f:=by
 generalize hm:xs.map f=m at hp;induction hp generalizing xs with
 |nil=>exact⟨xs,Gk _,hm.symm⟩
 |cons a p ih=>
  match xs,hm with
  |x::xs,hm=>
   obtain⟨e1,e2⟩:=Bp hm;obtain⟨zs,z1,z2⟩:=ih e2;exact⟨x::zs,z1.cons x,by rw [z2, <-e1];rfl⟩
 |swap a b l=>
  match xs,hm with
  |x::y::xs,hm=>
   obtain⟨e1,e2⟩:=Bp hm;obtain⟨e2,e3⟩:=Bp e2;exact⟨y::x::xs,Kv _ _ _,by rw [<-e1, <-e2, <-e3];rfl⟩
 |trans p1 p2 ih1 ih2=>
  obtain⟨zs,z1,z2⟩:=ih2 hm;obtain⟨ys,y1,y2⟩:=ih1 z2.symm;exact⟨ys,y1.trans z1,y2⟩
theorem xG:∀{l m:List Int},l.Perm m->l.Pairwise (·<=·)->m.Pairwise (·<=·)->l=m
 | [],m,h,_,_=>h.nil_eq
 |a::l,[],h,_,_=>absurd h.length_eq (by simp)
 |a::l,b::m,h,h1,h2=>by
  have ha:=(List.pairwise_cons.mp h1);have hb:=(List.pairwise_cons.mp h2);have e:a=b:=by
   have m1:a∈b::m:=h.mem_iff.mp Ae;have m2:b∈a::l:=h.mem_iff.mpr Ae;rcases List.mem_cons.mp m1 with z|z
   ·exact z
   ·rcases List.mem_cons.mp m2 with y|y
    ·exact y.symm
    ·have:=ha.1 b y;have:=hb.1 a z;omega
  subst e;rw [xG ((List.perm_cons a).mp h) ha.2 hb.2]
def aKc (hc:X.calm=true):eF X (.type "set") (aYd X.w X.K):=by
 intro pins s σ H xs us Q I r h;obtain⟨p,ns,x,rfl,hq,hn,h3,q⟩:=h;obtain⟨u,rfl,ru⟩:=vals1 r;cases ru;obtain⟨its,rv,pl,hz⟩:=I.list hq;have hlen:its.length=ns.length:=by rw [<-Vals.length rv];unfold xK;rw [Ab]
 refine aAl (items:=its.toArray) (I.ok.hd hc) pl.isList (λi v hv=>aFg hn rv i v (by simpa using hv)) h3 λh' tk S kp'=>?_;have kp:∀b o,s.heap.get? b=some o->h'.get? b=some o:=λb o e=>kp' b o (Ap e) e;rw [show its.toArray.size=ns.length by rw [Al,hlen]]at S;have so:aCb X.w s.heap.objs.size x (decide (0<ns.length)) h':=S;refine⟨.ref s.heap.objs.size,_,I.laid (t':=tk) (o:= .ext (aCb X.w s.heap.objs.size _ _)) kp (Am _) ⟨so,?_,λh1 h2 p k=>?_⟩,rfl,q _ (I.hok.fresh (Am _))⟩
 ·obtain⟨o,_,_,e,_⟩:=so;exact⟨o,e⟩
 ·obtain⟨o,ep,tk,e,c⟩:=p;exact⟨o,ep,tk,k _ e,c⟩
def aC7 (hc:X.calm=true):eF X (.builtin "sorted") (aL1 X.w):=by
 intro pins s σ H xs us Q I r h;obtain⟨p,x,b,rfl,hp,hx,q⟩:=h;obtain⟨u,rfl,ru⟩:=vals1 r;cases ru;obtain⟨so,_,_⟩:=(show cL X.prog X.w H s.heap p (.ext (aCb X.w p x b))from I.hok p _ hp);obtain⟨o,ep,tk,ho,hex,hd⟩:=so;have l3:(zs1 x b).length<=1:=by cases b<;>simp [zs1]
 refine Hu Ri Qn Qo (Qq _) ?_;unfold Builtin.«sorted»;refine Aa (m:=checkCount "sorted" 1 1 _) (Af ?_);have rise:SetTable.uE (aBa (!X.w.params.followText "set-order") (zs1 x b)).place:=by
  intro i j h1 h2;have:j<1:=Bf h2 (by show(zs1 x b).toArray.size<=1;rw [Al];exact l3);omega
 refine Aa (mY (by simpa using I.ok.hd hc) ho hex hd (aP5 hx) rise rfl rfl (by have:=aSo (x:=x) b tk;rw [Cr];omega) λh' tk' s1 hk=>?_);obtain⟨ys,py,ey⟩:=aFa (f:=λz:Nat=>Cz (z:Int) (tk z)) (l:=gM X.w p (jD (zs1 x b) tk) ep) (xs:=zs1 x b) (by
  have:=jZ X.w p (jD (zs1 x b) tk) ep;have e:(jD (zs1 x b) tk).toList.map (·.2)=(zs1 x b).map λz:Nat=>Cz (z:Int) (tk z):=by simp [jD]
  rw [e]at this;exact this)
 rw [ey];have hi:IntsAre (ys.map λz:Nat=>Cz (z:Int) (tk z)) (ys.map λz:Nat=>(z:Int)):=by
  clear py ey;induction ys with
  |nil=>exact .nil
  |cons a l ih=>exact .cons _ _ ih
 generalize (ys.map λz:Nat=>Cz (z:Int) (tk z))=vs at hi;have hal:vs.length=ys.length:=by rw [hi.length,Ab]
 have yl:=py.length_eq;refine Aa (Lf ?_ (by rw [Cr];omega));have hoL:(h'.push (seqObj "list" vs.toArray 0)).get? h'.objs.size=some (seqObj "list" vs.toArray 0):=Ar _ rfl;refine Aa (By (Dg slot_list_sort ⟨_,hoL,rfl⟩ entry_list_sort (list_sort_tree hoL hi (by omega) λout ms a1 a2 a3=>⟨_,rfl,?_⟩) (Oo _)));refine Af ⟨_,rfl,?_⟩;obtain⟨e,he⟩:=Pk (vs:=vs) (out:=out) hoL;have hsz:h'.objs.size<(h'.push (seqObj "list" vs.toArray 0)).objs.size:=by rw [Dk];exact Ed _
 have keep:∀b o,s.heap.get? b=some o->(sortedHeap (h'.push (seqObj "list" vs.toArray 0)) h'.objs.size vs out).get? b=some o:=λb o eb=>by
  have e1:=hk b o eb;have hlt:=Ap e1;rw [Ol (Ax hlt) (Hv hlt hsz)];exact Ai _ e1
 have hge:s.heap.objs.size<=h'.objs.size:=Eh s1;have es:ms=(zs1 x b).map λz:Nat=>(z:Int):=xG (a2.trans (py.map _)) a3 (by cases b<;>simp [zs1]);have en:ms.map V.int=xK (zs1 x b):=by rw [es,Bk];rfl
 refine⟨.ref h'.objs.size,_,I.laid (t':=tk') (o:= .lst (ms.map V.int)) keep hge ⟨?_,out.toList,e,zP a1,by simpa using he⟩,rfl,by rw [en];exact q _ (I.hok.fresh hge)⟩;rw [Ab,a2.length_eq,Ab,Cr];omega
structure Dis (P:Program) (w:World) (K:Ac) (mg:Str->Option Value) (base:Heap) (CX:CXT) (k:Nat) (Cs:Addr->Prop) (m:Str) (ps:List Str) (sp:Addr->Sp):Prop where
 ex:∀C,Cs C->Cls K C/\∃f fd,Meth K C m f/\bB P w K mg base CX k f fd ps (sp C)/\Binds K fd ps []
def aPo (Cs:Addr->Prop) (m:Str) (sp:Addr->Sp) (E:XK) (ta:TE) (t:TA):TE:=λσ H Q=>ta σ H λx H1=>∃a C dx fs,x= .ref a/\H1 a=some (.ins C dx fs)/\Cs C/\fs.lookup m=none/\t σ H1 λvs H2=>sp C (.ref a::vs) H2 Q E
section
variable {X:Cx} {CX:CXT} {k:Nat} {Cs:Addr->Prop} {m:Str} {ps:List Str} {sp:Addr->Sp} {E:XK} {o e:Expr} {es:List Expr} {ta:TE} {t:TA} {apos pos:Pos}
def cH {pl:Sem Bool} (he:PE X o ta) (D:Dis X.prog X.w X.K X.mg X.base CX k Cs m ps sp) (hr:dH k X.A) (hx:pH CX X E) (ha:PA X (e::es) t)
  (hst:starEach (e::es) X.env=(false,eval e X.env)::starEach es X.env:=by rfl) (hpl:(backTo pos (starEach es X.env)).any (·.1)=false:=by rfl)
  (ht:eval (.Call (.Attribute o m apos) (e::es) [] pos) X.env=(do
   let ov<-eval o X.env
   standAt apos.atName
   let(f,first)<-holding [ov] (getMethod ov m pl)
   callWith pos f first (backTo pos (starEach (e::es) X.env)) (backToKw pos (keywordEach [] X.env))):=by rfl):
  PE X (.Call (.Attribute o m apos) (e::es) [] pos) (aPo Cs m sp E ta t):=by
 intro pins s σ H Q I h;refine Mz (pl:=pl) (thn (he pins s σ H _ I h) λu s1 ⟨x,H1,I1,rx,a,C,dx,fs,ex,ea,hC,l,q⟩=>?_) ht;subst ex;obtain rfl:u=An a:=rx;obtain⟨c,f,fd,hm,F,hb⟩:=D.ex C hC;refine aAs I1 ea c hm l ?_;refine Jq (first:=[.ref a]) (h₀:=X.base) I.ok.mod.kin hm.kp (thn (ha pos pins s1 σ H1 _ I1 q) λus s2 ⟨vs,H2,I2,r,q2⟩=>⟨I2.kIn,?_⟩) hst hpl;exact aHb (us:= .ref a::us) (vs:= .ref a::vs) F hr hb .nil hx I2 (.cons rfl r) (by rw [Bg];exact q2)
def bH {pl:Sem Bool} (he:PE X o ta) (D:Dis X.prog X.w X.K X.mg X.base CX k Cs m ps sp) (hr:dH k X.A) (hx:pH CX X E)
  (ht:eval (.Call (.Attribute o m apos) [] [] pos) X.env=(do
   let ov<-eval o X.env
   standAt apos.atName
   let(f,first)<-holding [ov] (getMethod ov m pl)
   callWith pos f first (backTo pos (starEach [] X.env)) (backToKw pos (keywordEach [] X.env))):=by rfl):
  PE X (.Call (.Attribute o m apos) [] [] pos) (aPo Cs m sp E ta aKi):=by
 intro pins s σ H Q I h;refine Mz (pl:=pl) (thn (he pins s σ H _ I h) λu s1 ⟨x,H1,I1,rx,a,C,dx,fs,ex,ea,hC,l,q⟩=>?_) ht;subst ex;obtain rfl:u=An a:=rx;obtain⟨c,f,fd,hm,F,hb⟩:=D.ex C hC;refine aAs I1 ea c hm l ?_;exact PySem.W.callWith_K0 (first:=[.ref a]) I1.kIn hm.kp (aHb (us:=[.ref a]) (vs:=[.ref a]) F hr hb .nil hx I1 (.cons rfl .nil) q)
end
variable {o e:Expr} {apos cpos:Pos} {td ty:TE}
def aN2:eF X (.builtin "any") (λxs H Q=>∃(p:Addr) (bs:List Bool),xs=[.ref p]/\SqL X.K H p (bs.map V.bl)/\X.calm=true/\Q (.bl (bs.any id)) H):=by
 intro pins s σ H xs us Q I r h;obtain⟨p,bs,rfl,hq,hc,q⟩:=h;obtain⟨u,rfl,ru⟩:=vals1 r;cases ru;obtain⟨its,rv,pl,hz⟩:=I.list hq;have hl:=rv.length;rw [Ab]at hl;refine call_any_walk (He pl.isList ?_);have hlt:p<s.heap.objs.size:=by obtain⟨o,e,_⟩:=pl.isList;exact Ap e
 have hne:p≠s.heap.objs.size:=Ax hlt;have hd:X.A.in1.handled=none:=I.ok.hd hc;refine⟨s.heap.objs.size,_,_,_,_,_,λi=>bs.getD i false,rfl,Kg hd s.heap.objs.size p hne its.toArray,⟨⟨_,Ar _ rfl,rfl,rfl⟩,pl.isList.push _⟩,λi v s' Q' E' hv hQ=>?_,λh' tk hk=>?_⟩
 ·have hv':its[i]? =some v:=by simpa using hv
  have hi:i<its.length:=(List.getElem?_eq_some_iff.mp hv').1;have hi':i<bs.length:=by omega
  have e1:(bs.map V.bl)[i]? =some (V.bl bs[i]):=by simp [hi']
  obtain⟨u,hu,ru⟩:=rv.get e1;rw [hv']at hu;cases hu;have ru':v=Ga bs[i]:=ru;subst ru';have e2:bs.getD i false=bs[i]:=by simp [hi']
  have hQ':Q' (bs.getD i false) s':=hQ;rw [e2]at hQ';exact Ck hQ'
 ·refine⟨.bl (bs.any id),H,?_,?_,q⟩
  ·exact I.kept (t':=tk) λb o e=>hk b o (by simp;exact Ax (Ap e)) (Ai _ e)
  ·show Ga _=Ga _;congr 1;have e:its.toArray.size=bs.length:=by rw [Al];omega
   rw [e];have:∀l:List Bool,(Bq l.length).any (λi=>l.getD i false)=l.any id:=by
    intro l;induction l with
    |nil=>rfl
    |cons b l ih=>
     rw [Ah,Ob,Dw,Dw,Tt, <-ih];congr 1
   exact this bs
def tx (l:List Nat):Str:=⟨l.toArray⟩
def oA (l:List Nat):(tx l).cps.toList=l:=List.toList_toArray
def gK (l:List Nat):(tx l).length=l.length:=by show l.toArray.size=_;rw [Al]
def jL {l m:List Nat} (h:tx l=tx m):l=m:=by rw [<-oA l,h,oA]
def aFo (z:Str):z=tx z.cps.toList:=by cases z;unfold tx;rw [Array.toArray_toList]
def gH (l m:List Nat):tx l++tx m=tx (l++m):=by
 rw [aFo (tx l++tx m)];congr 1;show((tx l).cps++(tx m).cps).toList=_;rw [Array.toList_append,oA,oA]
inductive aTr (x:V) (lo:Option Int) (hi:Option Int) (H:Hp) (Q:VK):Prop
 |mk (z:List Nat) (a b:Nat) (q0_:x= .str (tx z)) (q1_:lo=some (a:Int)) (q2_:hi=some (b:Int)) (q3_:a<=b) (q4_:z.length<=sizeLine) (q5_:Q (.str (tx ((z.drop a).take (b-a)))) H):aTr x lo hi H Q
def bAa:V->Option Int->Option Int->Hp->VK->Prop:=λx lo hi H Q=>aTr x lo hi H Q
def Its (z:List Nat):It:=⟨λi _=>i<z.length,λi H x H'=>H'=H/\∃c,z[i]? =some c/\x= .str (tx [c]),λi _=>z.length<=i⟩
def aM3 {w:World} {K:Ac} {tg:Expr} (it:Addr) (z:List Nat) (t:Tok):Turn P w K tg (Its z) [it] it (λi h=>h.IsStrIter it "str_ascii_iterator" (tx z) t i) where
 mem:=by simp
 obj:=λi h st b hb=>by
  have e:b=it:=by simpa using hb
  subst e;obtain⟨o,e,c,d⟩:=st;exact⟨o,e,λv z=>by rw [d]at z;cases z⟩
 keep:=λi h h' st k=>let⟨o,ho,r⟩:=st;⟨o,k it (by simp) o ho,r⟩
 item:=by
  intro X hP hw hK hc i pins s σ H E I hf st hg;subst hP hw hK;obtain⟨f0,f1,f2,f3,f4,f5⟩:=hf it (by simp);have hx:(tx z).cps[i]? =some (z[i]'hg):=by
   show z.toArray[i]? =_;rw [Jd,Ak hg]
  refine wpAny_pyNext_ascii_item st hx λh' st' sb=>?_;have I1:Inv X pins σ H {s with heap:=h',toks:=s.toks+1}:=I.turned (λb o hb e=>(sb.2 b hb).trans e) f0 f1 f3 f4 f5;obtain⟨o,e,c,d⟩:=id st';exact⟨_,rfl,aI8 (s:={s with heap:=h',toks:=s.toks+1}) e c d (by decide) ⟨.str (tx [z[i]'hg]),H,I1,⟨_,rfl⟩,⟨rfl,_,Ak hg,rfl⟩,st',λb hb=>(hf b hb).1⟩⟩
 done:=by
  intro X hP hw hK hc i pins s σ H E I hf st hg;subst hP hw hK;obtain⟨f0,f1,f2,f3,f4,f5⟩:=hf it (by simp);have hx:(tx z).cps[i]? =none:=by
   show z.toArray[i]? =_;rw [Jd,Co hg]
  exact wpAny_pyNext_ascii_end (I.ok.hd hc) st hx λh' eb=>⟨rfl,I.turned (t':=s.toks) (λb o hb e=>eb b o hb e) f0 f1 f3 f4 f5⟩
 self:=λ_ _ _ _ _ st h=>wpAny_pyIter_striter_ascii st h
variable {tg:Expr}
def aZz (te:TE):TI:=λσ H R=>te σ H λx H1=>∃z:List Nat,x= .str (tx z)/\(∀c∈z,c<128)/\R (Its z) H1
def aUg {l:Expr} {tl:TE} (hl:PE X l tl):PI X tg l (aZz tl):=by
 intro pins s σ H R I h;refine thn (hl pins s σ H _ I h) λv s1 ⟨x,H1,I1,r1,q1⟩=>?_;obtain⟨z,rfl,ha,q⟩:=q1;obtain⟨t,rfl⟩:=r1;refine wpAny_pyIter_ascii (by
  show z.toArray.all (·<128)=true;rw [List.all_toArray,List.all_eq_true];exactλc hc=>decide_eq_true (ha c hc)) ?_
 refine⟨s1.heap.objs.size,[s1.heap.objs.size],_,_,H1,rfl,I1.kept (t':=s1.toks) λb o e=>Ai _ e,aM3 _ z t,⟨_,Ar _ rfl,rfl,rfl⟩,λb hb=>?_,q⟩;have e:b=s1.heap.objs.size:=by simpa using hb
 subst e;exact I1.fpOk (Am _) (I1.hok.fresh (Am _))
def aRv {z:List Nat} {tb:TS} {D:Ends} {σ:St} {H:Hp} (Pv:Nat->St->Hp->Prop) (h0:Pv 0 σ H)
  (hs:∀i c σ H,z[i]? =some c->Pv i σ H->g (.str (tx [c])) σ H λσ2 H2=>tb {D with nx:=Pv (i+1),ct:=Pv (i+1),bk:=D.nx} σ2 H2) (hd:∀σ H,Pv z.length σ H->D.nx σ H):
  ∃W:Nat->Nat->St->Hp->Prop,(∃m,W 0 m σ H)/\∀i m σ H,W i m σ H->
   ((Its z).stop i H/\D.nx σ H)∨((Its z).go i H/\∃N:St->Hp->Prop,(∀σ' H',N σ' H'->∃m',m'<m/\W (i+1) m' σ' H')/\∀x H',(Its z).yld i H x H'->g x σ H' λσ2 H2=>tb {D with nx:=N,ct:=N,bk:=D.nx} σ2 H2):=by
 refine⟨λi m σ H=>m=z.length-i/\i<=z.length/\Pv i σ H,⟨z.length,by simp,Bb _,h0⟩,?_⟩;rintro i m σ H ⟨rfl,hi,p⟩;by_cases hlt:i<z.length
 ·refine .inr ⟨hlt,Pv (i+1),λσ' H' p'=>⟨z.length-(i+1),by omega,rfl,hlt,p'⟩,λx H' y=>?_⟩;obtain⟨e,c,hc,ex⟩:=y;subst e ex;exact hs i c σ _ hc p
 ·have e:i=z.length:=by omega
  subst e;exact .inl ⟨Am _,hd σ H p⟩
def glu (sep:List Nat):List (List Nat)->List Nat
 | []=>[]
 | [x]=>x
 |x::y::r=>x++(sep++glu sep (y::r))
theorem aGk (sep:List Nat):∀ls:List (List Nat),Str.join (tx sep) (ls.map tx)=tx (glu sep ls)
 | []=>rfl
 | [x]=>rfl
 |x::y::r=>by
  show tx x++tx sep++Str.join (tx sep) ((y::r).map tx)=_;rw [aGk sep (y::r),gH,gH,glu,Bi]
theorem aFd (n:Nat):∀(ls:List (List Nat)) (a:Nat),(ls.map tx).foldl (λacc s=>acc+s.length+n) a=a+((ls.map Cg).sum+ls.length*n)
 | [],a=>by simp
 |x::r,a=>by
  rw [Aw,Fm,aFd n r,gK,Aw,Fq,Ah,Va];omega
theorem aCg:∀{ls:List (List Nat)} {us:List Value},Vals (ls.map λl=>V.str (tx l)) us->∃l:List (Str×Tok),strValues l=us/\l.map (·.1)=ls.map tx
 | [],_,.nil=>⟨[],rfl,rfl⟩
 |x::ls,_,.cons r1 t=>by
  obtain⟨l,e1,e2⟩:=aCg t;obtain⟨tk,rfl⟩:=r1;exact⟨(tx x,tk)::l,by rw [<-e1];rfl,by rw [Aw,e2];rfl⟩
inductive aOv (x:V) (xs:List V) (H:Hp) (Q:VK):Prop
 |mk (sep:List Nat) (p:Addr) (ls:List (List Nat)) (q0_:x= .str (tx sep)) (q1_:xs=[.ref p]) (q2_:H p=some (.lst (ls.map λl=>V.str (tx l)))) (q3_:(ls.map Cg).sum+ls.length*sep.length<=100000) (q4_:Q (.str (tx (glu sep ls))) H):aOv x xs H Q
def rJoin:V->List V->Hp->VK->Prop:=λx xs H Q=>aOv x xs H Q
def aQh:MtR X "str.join" rJoin:=by
 intro pins s σ H x xs v us Q I rx rv h;obtain⟨sep,p,ls,rfl,rfl,hp,hz,q⟩:=h;obtain⟨t,rfl⟩:=rx;obtain⟨u,rfl,ru⟩:=vals1 rv;cases ru;obtain⟨its,r,pl,_⟩:=I.list (SqL.of hp);obtain⟨l,e1,e2⟩:=aCg r;have ok:JoinOk (tx sep) (ls.map tx)=true:=by
  have:Ml ((ls.map tx).toArray.foldl (λacc s=>acc+s.length+(tx sep).length) 0)=false:=by
   rw [List.foldl_toArray,aFd,gK];unfold Ml;rw [decide_eq_false_iff_not,Cr];omega
  unfold JoinOk;rw [this];rfl
 refine SC.join (l:=l) (texts:=ls.map tx) (by rw [e1];exact pl.isList) e2 ok λt' k=>⟨.str (tx (glu sep ls)),H,I.tok k,⟨t',?_⟩,q⟩;show Ka (Vz (tx sep) (ls.map tx)) t'=_;rw [StrLaws.glued_eq_join,aGk]
inductive aGa (x:V) (xs:List V) (H:Hp) (Q:VK):Prop
 |mk (z y:List Nat) (q0_:x= .str (tx z)) (q1_:xs=[.str (tx y)]) (q2_:Q (.bl (decide (z.take y.length=y))) H):aGa x xs H Q
def aQt:V->List V->Hp->VK->Prop:=λx xs H Q=>aGa x xs H Q
def aK9:MtR X "str.startswith" aQt:=by
 intro pins s σ H x xs v us Q I rx rv h;obtain⟨z,y,rfl,rfl,q⟩:=h;obtain⟨t,rfl⟩:=rx;obtain⟨u,rfl,tk,rfl⟩:=vals1 rv;have e:Se (tx z) (tx y)=decide (z.take y.length=y):=by
  unfold Se;rw [StrLaws.subAt_eq,gK,gK,oA,oA,Gv,Ej,Fz,decide_eq_true_iff,beq_iff_eq,decide_eq_true_iff];constructor
  ·exactλh=>h.2
  ·intro h;refine⟨?_,h⟩;have:=congrArg Cg h;rw [Cd]at this;omega
 refine SC.startswith ⟨.bl _,H,I,rfl,?_⟩;rw [e];exact q
inductive aP7 (xs:List V) (H:Hp) (Q:VK):Prop
 |mk (z:List Nat) (q0_:xs=[.str (tx z)]) (q1_:z≠[]) (q2_:Ox z) (q3_:z.length<=640) (q4_:Q (.int ((Kd z:Nat):Int)) H):aP7 xs H Q
def aXn:List V->Hp->VK->Prop:=λxs H Q=>aP7 xs H Q
def aLq:eF X (.type "int") aXn:=by
 intro pins s σ H xs us Q I r h;obtain⟨z,rfl,h1,h2,h3,q⟩:=h;obtain⟨u,rfl,tk,rfl⟩:=vals1 r;have e:intText? (tx z)=some ((Kd z:Nat):Int):=by
  have:=intText_digits (x:=tx z) (by rw [oA];exact h2) (by rw [oA];exact h1) (by rw [gK];omega);rw [oA]at this;exact this
 exact W.KIN.call_text e (by rw [gK];exact h3) ⟨.int _,H,I.tok _,⟨_,rfl⟩,q⟩
def itx (i:Int):List Nat:=(Au (toString i)).cps.toList
def aT9 (i:Int):Au (toString i)=tx (itx i):=aFo _
inductive aM4 (xs:List V) (H:Hp) (Q:VK):Prop
 |mk (i:Int) (q0_:xs=[.int i]) (q1_:i.natAbs.log2<1920) (q2_:Q (.str (tx (itx i))) H):aM4 xs H Q
def aSv:List V->Hp->VK->Prop:=λxs H Q=>aM4 xs H Q
def sG:eF X (.type "str") aSv:=by
 intro pins s σ H xs us Q I r h;obtain⟨i,rfl,hi,q⟩:=h;exact aDi pins s σ H _ us Q I r ⟨i,rfl,hi,by show Q (.str (Au (toString i))) H;rw [aT9];exact q⟩
def aT1:R2:=λx y H Q=>∃i j,x= .str i/\y= .str j/\i.length+j.length<=sizeLine/\Q (.str (i++j)) H
def aRu {X:Cx}:OpR X (binaryOp .Add) aT1:=zW
def cO (v:Option Int) (d n:Nat):Nat:=match v with
 |none=>d
 |some i=>(max 0 (min (if i<0 then i+(n:Int)else i) (n:Int))).toNat
def yN {v:Option Int} {d n:Nat} (h:d<=n):cO v d n<=n:=by
 unfold cO;cases v with
 |none=>exact h
 |some i=>dsimp only;split<;>omega
def aFx (v:Option Int) (d n:Nat):((cO v d n:Nat):Int)=match v with|none=>(d:Int)|some i=>max 0 (min (if i<0 then i+(n:Int)else i) (n:Int)):=by
 cases v with
 |none=>rfl
 |some i=>show((max 0 (min (if i<0 then i+(n:Int)else i) (n:Int))).toNat:Int)=_;dsimp only;split<;>omega
def zU {a b:Int} (h:b<=a):sliceRange a b 1=[]:=by
 unfold sliceRange;rw [if_pos (by decide)];simp [show¬a<b by omega]
def aRl (lo hi:Option Int) (n:Nat):Cj lo hi 1 n=Cj (some ((cO lo 0 n:Nat):Int)) (some ((max (cO lo 0 n) (cO hi n n):Nat):Int)) 1 n:=by
 have l1:cO lo 0 n<=n:=yN (Bb _);have l2:cO hi n n<=n:=yN (Am _);have h0:Cj lo hi 1 n=sliceRange ((cO lo 0 n:Nat):Int) ((cO hi n n:Nat):Int) 1:=by
  rw [aFx,aFx];rfl
 have h1:Cj (some ((cO lo 0 n:Nat):Int)) (some ((max (cO lo 0 n) (cO hi n n):Nat):Int)) 1 n=sliceRange ((cO lo 0 n:Nat):Int) ((max (cO lo 0 n) (cO hi n n):Nat):Int) 1:=by
  have e1:max (0:Int) (min ((cO lo 0 n:Nat):Int) (n:Int))=((cO lo 0 n:Nat):Int):=by omega
  have e2:max (0:Int) (min ((max (cO lo 0 n) (cO hi n n):Nat):Int) (n:Int))=((max (cO lo 0 n) (cO hi n n):Nat):Int):=by omega
  simp only [Cj,show¬(((cO lo 0 n:Nat):Int)<0) by omega,show¬(((max (cO lo 0 n) (cO hi n n):Nat):Int)<0) by omega,if_false,e1,e2,show((1:Int)>0)=True from by simp,if_true]
 rw [h0,h1];rcases Nat.le_total (cO lo 0 n) (cO hi n n)with g|g
 ·rw [Nat.max_eq_right g]
 ·rw [Nat.max_eq_left g,zU (by omega),zU (by omega)]
inductive aTt (x:V) (lo:Option Int) (hi:Option Int) (H:Hp) (Q:VK):Prop
 |mk (z:List Nat) (q0_:x= .str (tx z)) (q1_:z.length<=sizeLine) (q2_:Q (.str (tx ((z.drop (cO lo 0 z.length)).take (cO hi z.length z.length-cO lo 0 z.length)))) H):aTt x lo hi H Q
def aZm:V->Option Int->Option Int->Hp->VK->Prop:=λx lo hi H Q=>aTt x lo hi H Q
def zF {pins:List (Addr×Obj)} {s:Shared} {σ:St} {H:Hp} {z:List Nat} {t:Tok} {l u:Option (Int×Tok)} {sl:Addr} (I:Inv X pins σ H s) (hs:s.heap.IsSlice sl l u none) (hz:z.length<=sizeLine)
  (q:Q (.str (tx ((z.drop (cO (l.map (·.1)) 0 z.length)).take (cO (u.map (·.1)) z.length z.length-cO (l.map (·.1)) 0 z.length)))) H):wpAny (model X.prog X.w) X.A (getItem (.str (tx z) t) (.ref sl)) (EP X pins σ Q) X.xe s:=by
 refine wpAny_getItem_str_slice hs rfl ?_;have hl:=gK z;generalize ea:cO (l.map (·.1)) 0 z.length=a at q;generalize eb:cO (u.map (·.1)) z.length z.length=b at q;have la:a<=z.length:=by rw [<-ea];exact yN (Bb _)
 have lb:b<=z.length:=by rw [<-eb];exact yN (Am _)
 have pk0:slicePicked (tx z) l u none=Cj (some (a:Int)) (some ((max a b:Nat):Int)) 1 z.length:=by
  show Cj _ _ 1 (tx z).length=_;rw [hl,aRl,ea,eb]
 have pk:(slicePicked (tx z) l u none).filterMap ((tx z).cps[·]?)=(z.drop a).take (b-a):=by
  have h:=StrLaws.sliced_plain (tx z) (a:=a) (b:=max a b) (by omega) (by omega);rw [hl,oA,show max a b-a=b-a by omega]at h;rw [pk0];exact h
 unfold sliceMade;split
 ·rename_i hw;simp only [Option.map_none,Option.getD_none,beq_self_eq_true,Nk,beq_iff_eq]at hw;rw [pk0,StrLaws.strSliceIndices_plain (by omega) (by omega),Ab,Df,hl]at hw;have e:(z.drop a).take (b-a)=z:=by
   rcases Fe z.length with g|g
   ·rw [List.length_eq_zero_iff.mp g];simp
   ·have:a=0:=by omega
    subst this;rw [Gv];exact Fb (by omega)
  rw [e]at q;exact⟨.str (tx z),H,I,⟨t,rfl⟩,q⟩
 ·rw [pk];exact⟨by show(tx ((z.drop a).take (b-a))).length<=sizeLine;rw [gK,Cd,Hc];omega,.str (tx ((z.drop a).take (b-a))),H,I.tok _,⟨_,rfl⟩,q⟩
def aU8:SlR X aZm:=by
 intro pins s σ H x v vl vu lo hi sl Q I rx hs pl pu h;obtain⟨z,rfl,hz,q⟩:=h;obtain⟨t,rfl⟩:=rx;refine⟨"str",_,F.slot_str_getitem.lookup,Su _ _ _,?_⟩;cases pl with
 |int i ti=>
  cases pu with
  |int j tj=>exact zF (l:=some (i,ti)) (u:=some (j,tj)) I hs hz q
  |none=>exact zF (l:=some (i,ti)) (u:=none) I hs hz q
 |none=>
  cases pu with
  |int j tj=>exact zF (l:=none) (u:=some (j,tj)) I hs hz q
  |none=>exact zF (l:=none) (u:=none) I hs hz q
def aEx (k d n:Nat):cO (some (k:Int)) d n=min k n:=by
 unfold cO;dsimp only;rw [if_neg (by omega)];omega
def aOr:SlR X bAa:=λpins s σ H x v vl vu lo hi sl Q I rx hs pl pu h=>aU8 pins s σ H x v vl vu lo hi sl Q I rx hs pl pu (by
 obtain⟨z,a,b,rfl,rfl,rfl,hab,hz,q⟩:=h;refine⟨z,rfl,hz,?_⟩;rw [aEx,aEx];have e:(z.drop (min a z.length)).take (min b z.length-min a z.length)=(z.drop a).take (b-a):=by
  rcases Ge a z.length with g|g
  ·rw [Rp (Eh g)];rcases Ge b z.length with g2|g2
   ·rw [Rp (Eh g2)]
   ·rw [Rc g2,Fb (by rw [Hc];omega),Fb (by rw [Hc];omega)]
  ·rw [Rc g,Gp (Am _),Gp g,Sh,Sh]
 rw [e];exact q)
structure Opq where
 φ:(Addr->Prop)->(Addr->Prop)->Hp->V->Prop
 mono:∀{W B B' H H'} {v:V},(∀b o,¬B b->H b=some o->¬B' b/\H' b=some o)->φ W B H v->φ W B' H' v
 wm:∀{W W' B H} {v:V},(∀p,W p->W' p)->φ W B H v->φ W' B H v
inductive U where
 |v (x:V)
 |tp (l:List U)
 |ls (l:List U)
 |ob (C:Addr) (ns:List Str) (us:List U)
 |dk (ns:List Str) (us:List U)
 |op (o:Opq)
 |wl
abbrev U.n (i:Int):U:= .v (.int i)
abbrev U.b (c:Bool):U:= .v (.bl c)
abbrev U.s (x:Str):U:= .v (.str x)
abbrev U.no:U:= .v .non
def Wll (H:Hp) (a:Addr):Prop:=∃x y z:Int,H a=some (.lst [.int x,.int y,.int z])
section
variable (W B:Addr->Prop) (H:Hp)
mutual
def DU:U->V->Prop
 | .v x,y=>y=x/\jG x=true
 | .tp l,y=>∃p xs,y= .ref p/\¬B p/\H p=some (.tup xs)/\DUs l xs
 | .ls l,y=>∃p xs,y= .ref p/\¬B p/\H p=some (.lst xs)/\DUs l xs
 | .ob C ns us,y=>∃p dx xs,y= .ref p/\¬B p/\H p=some (.ins C dx (ns.zip xs))/\ns.length=xs.length/\DUs us xs
 | .dk ns us,y=>∃p xs,y= .ref p/\¬B p/\H p=some (.dK ((ns.map Ct).zip xs))/\ns.length=xs.length/\DUs us xs
 | .op o,y=>o.φ W B H y
 | .wl,y=>∃p,y= .ref p/\W p
def DUs:List U->List V->Prop
 | [],xs=>xs=[]
 |u::l,xs=>∃x r,xs=x::r/\DU u x/\DUs l r
end
end
section
variable {W B B':Addr->Prop} {H H':Hp}
mutual
theorem DU.mono (k:∀b o,¬B b->H b=some o->¬B' b/\H' b=some o):∀(u:U) {v:V},DU W B H u v->DU W B' H' u v
 | .v _,_,h=>h
 | .tp l,_,⟨p,xs,e,nb,hp,t⟩=>⟨p,xs,e,(k _ _ nb hp).1,(k _ _ nb hp).2,DUs.mono k l t⟩
 | .ls l,_,⟨p,xs,e,nb,hp,t⟩=>⟨p,xs,e,(k _ _ nb hp).1,(k _ _ nb hp).2,DUs.mono k l t⟩
 | .ob _ _ us,_,⟨p,dx,xs,e,nb,hp,hl,t⟩=>⟨p,dx,xs,e,(k _ _ nb hp).1,(k _ _ nb hp).2,hl,DUs.mono k us t⟩
 | .dk _ us,_,⟨p,xs,e,nb,hp,hl,t⟩=>⟨p,xs,e,(k _ _ nb hp).1,(k _ _ nb hp).2,hl,DUs.mono k us t⟩
 | .op o,_,h=>o.mono k h
 | .wl,_,h=>h
theorem DUs.mono (k:∀b o,¬B b->H b=some o->¬B' b/\H' b=some o):∀(l:List U) {xs:List V},DUs W B H l xs->DUs W B' H' l xs
 | [],_,h=>h
 |u::l,_,⟨x,r,e,h,t⟩=>⟨x,r,e,DU.mono k u h,DUs.mono k l t⟩
end
def DUs.length:∀{l:List U} {xs:List V},DUs W B H l xs->l.length=xs.length
 | [],_,h=>by rw [show _=[]from h];rfl
 |_::_,_,⟨_,_,e,_,t⟩=>by rw [e,Ah,Ah,DUs.length t]
def DUs.get:∀{l:List U} {xs:List V} {i:Nat} {u:U},DUs W B H l xs->l[i]? =some u->∃x,xs[i]? =some x/\DU W B H u x
 | [],_,_,_,_,e=>by simp at e
 |_::_,_,0,_,⟨x,_,e,h,_⟩,q=>by simp at q;subst q e;exact⟨x,rfl,h⟩
 |_::_,_,i+1,_,⟨_,_,e,_,t⟩,q=>by
  obtain⟨y,h1,h2⟩:=DUs.get (i:=i) t (by simpa using q);exact⟨y,by rw [e];simpa using h1,h2⟩
def DUs.getV {l:List U} {x:V} (h:DUs W B H l xs) (e:xs[i]? =some x):∃u,l[i]? =some u/\DU W B H u x:=by
 have hi:i<l.length:=by rw [h.length];exact(List.getElem?_eq_some_iff.mp e).1
 obtain⟨y,h1,h2⟩:=h.get (Ak hi);rw [e]at h1;cases h1;exact⟨_,Ak hi,h2⟩
def DUs.app:∀{l m:List U} {xs ys:List V},DUs W B H l xs->DUs W B H m ys->DUs W B H (l++m) (xs++ys)
 | [],_,_,_,h,t=>by rw [show _=[]from h];exact t
 |_::_,_,_,_,⟨x,r,e,h,t⟩,t'=>⟨x,_,by rw [e];rfl,h,DUs.app t t'⟩
def DUs.drop:∀{l:List U} {xs:List V} (i:Nat),DUs W B H l xs->DUs W B H (l.drop i) (xs.drop i)
 |_,_,0,h=>h
 | [],_,_+1,h=>by rw [show _=[]from h];rfl
 |_::_,_,i+1,⟨_,_,e,_,t⟩=>by rw [e];exact DUs.drop i t
def DUs.take:∀{l:List U} {xs:List V} (i:Nat),DUs W B H l xs->DUs W B H (l.take i) (xs.take i)
 |_,_,0,_=>rfl
 | [],_,_+1,h=>by rw [show _=[]from h];rfl
 |_::_,_,i+1,⟨x,_,e,h,t⟩=>by rw [e];exact⟨x,_,rfl,h,DUs.take i t⟩
def DUs.one {u:U} {x:V} (h:DU W B H u x):DUs W B H [u] [x]:=⟨x,[],rfl,h,rfl⟩
end
section
variable {W W' B:Addr->Prop} {H:Hp}
mutual
theorem DU.wm (k:∀p,W p->W' p):∀(u:U) {v:V},DU W B H u v->DU W' B H u v
 | .v _,_,h=>h
 | .tp l,_,⟨p,xs,e,nb,hp,t⟩=>⟨p,xs,e,nb,hp,DUs.wm k l t⟩
 | .ls l,_,⟨p,xs,e,nb,hp,t⟩=>⟨p,xs,e,nb,hp,DUs.wm k l t⟩
 | .ob _ _ us,_,⟨p,dx,xs,e,nb,hp,hl,t⟩=>⟨p,dx,xs,e,nb,hp,hl,DUs.wm k us t⟩
 | .dk _ us,_,⟨p,xs,e,nb,hp,hl,t⟩=>⟨p,xs,e,nb,hp,hl,DUs.wm k us t⟩
 | .op o,_,h=>o.wm k h
 | .wl,_,⟨p,e,h⟩=>⟨p,e,k p h⟩
theorem DUs.wm (k:∀p,W p->W' p):∀(l:List U) {xs:List V},DUs W B H l xs->DUs W' B H l xs
 | [],_,h=>h
 |u::l,_,⟨x,r,e,h,t⟩=>⟨x,r,e,DU.wm k u h,DUs.wm k l t⟩
end
end
structure Fw (W:Addr->Prop) (H H':Hp):Prop where
 fr:∀b o,¬W b->H b=some o->H' b=some o
 wo:∀p,W p->Wll H' p
def Fw.trans {W:Addr->Prop} {H H1 H2:Hp} (a:Fw W H H1) (b:Fw W H1 H2):Fw W H H2:=⟨λc o n h=>b.fr c o n (a.fr c o n h),b.wo⟩
def Mt:HO->Prop
 | .lst _=>True
 | .ext _=>True
 | .dK _=>True
 |_=>False
structure EB (W B:Addr->Prop) (H:Hp):Prop where
 bl:∀p,B p->∃o,H p=some o/\Mt o
 wb:∀p,W p->B p
 wo:∀p,W p->Wll H p
structure Own where
 φ:(Addr->Prop)->(Addr->Prop)->(Addr->Prop)->Hp->Addr->Prop
 mono:∀{W B B' S H H'} {p:Addr},(∀b o,¬B b->H b=some o->¬B' b/\H' b=some o)->(∀b,S b->H' b=H b)->φ W B S H p->φ W B' S H' p
 wm:∀{W W' B S H} {p:Addr},(∀p,W p->W' p)->φ W B S H p->φ W' B S H p
 th:∀{W B S H} {p:Addr},φ W B S H p->∀b,S b->∃o,H b=some o/\Mt o
 hd:∀{W B S H} {p:Addr},φ W B S H p->S p
def Own.fz (o:Own):Opq:=⟨λW B H v=>∃p S,v= .ref p/\(∀b,S b->¬B b)/\o.φ W B S H p,λk ⟨p,S,e,n,h⟩=>⟨p,S,e,λb hb=>let⟨x,q,_⟩:=o.th h b hb;(k b x (n b hb) q).1,o.mono k (λb hb=>let⟨x,q,_⟩:=o.th h b hb;(k b x (n b hb) q).2.trans q.symm) h⟩,λk ⟨p,S,e,n,h⟩=>⟨p,S,e,n,o.wm k h⟩⟩
def aZ8:Opq:=⟨λ_ _ _ _=>True,λ_ _=>trivial,λ_ _=>trivial⟩
inductive Sl where
 |no
 |sh (u:U)
 |ow (l:List U)
 |br (l:List U)
 |oo (o:Own)
 |bo (o:Own)
abbrev EV:=List Sl
def Sl.rd:Sl->U
 | .sh u=>u
 | .ow l=> .ls l
 | .br l=> .ls l
 | .no=> .wl
 |_=> .op aZ8
def Sl.es:Sl->(U->Prop)->Prop
 | .sh u,R=>R u
 | .ow l,R=>R (.ls l)
 | .oo o,R=>R (.op o.fz)
 |_,_=>False
def lsO (l:List U):Own:=⟨λW B S H p=>(∀b,S b↔b=p)/\∃xs,H p=some (.lst xs)/\DUs W B H l xs,λk e ⟨s,xs,h,d⟩=>⟨s,xs,(e _ ((s _).mpr rfl)).trans h,DUs.mono k l d⟩,λk ⟨s,xs,h,d⟩=>⟨s,xs,h,DUs.wm k l d⟩,λ⟨s,_,h,_⟩ b hb=>by rw [(s b).mp hb];exact⟨_,h,trivial⟩,λ⟨s,_⟩=>(s _).mpr rfl⟩
def Sl.hold:Sl->Option Own
 | .ow l=>some (lsO l)
 | .br l=>some (lsO l)
 | .oo o=>some o
 | .bo o=>some o
 |_=>none
section
variable (W B:Addr->Prop) (H H':Hp)
def RO:Sl->V->Prop
 | .sh u,y=>DU W B H' u y
 | .ow l,y=>∃p xs,y= .ref p/\H p=none/\H' p=some (.lst xs)/\DUs W (λb=>B b∨b=p) H' l xs
 | .br l,y=>∃p xs,y= .ref p/\¬W p/\H' p=some (.lst xs)/\DUs W B H' l xs
 | .oo o,y=>∃p S,y= .ref p/\(∀b,S b->H b=none)/\o.φ W (λb=>B b∨S b) S H' p
 | .bo o,y=>∃p S,y= .ref p/\(∀b,S b->¬W b)/\o.φ W B S H' p
 | .no,_=>False
def DB (u:U) (y:V):Prop:=DU W B H u y∨∃l p xs,u= .ls l/\y= .ref p/\¬W p/\H p=some (.lst xs)/\DUs W B H l xs
structure EE (ρ:EV) (σ:St):Prop where
 eb:EB W B H
 len:ρ.length=σ.length
 sh:∀(i:Nat) (u:U),ρ[i]? =some (Sl.sh u)->∃v,σ[i]? =some (some v)/\DU W B H u v
 hd:∀(i:Nat) (s:Sl) (o:Own),ρ[i]? =some s->s.hold=some o->∃p S,σ[i]? =some (some (V.ref p))/\(∀b,S b->¬W b)/\o.φ W B S H p
end
def EE.ow {W B:Addr->Prop} {H:Hp} {ρ:EV} {σ:St} (e:EE W B H ρ σ) (i:Nat) (l:List U) (h:ρ[i]? =some (Sl.ow l)∨ρ[i]? =some (Sl.br l)):∃p xs,σ[i]? =some (some (V.ref p))/\¬W p/\H p=some (.lst xs)/\DUs W B H l xs:=by
 obtain⟨p,S,h1,h2,s,xs,h3⟩:∃p S,σ[i]? =some (some (V.ref p))/\(∀b,S b->¬W b)/\(lsO l).φ W B S H p:=h.elim (λh=>e.hd i _ _ h rfl) λh=>e.hd i _ _ h rfl;exact⟨p,xs,h1,h2 p ((s p).mpr rfl),h3⟩
section
variable {W B:Addr->Prop} {H H' H2:Hp} {ρ:EV} {σ:St}
def EB.keep (e:EB W B H) (f:Fw W H H'):∀b o,¬B b->H b=some o->¬B b/\H' b=some o:=λb o n h=>⟨n,f.fr b o (λw=>n (e.wb b w)) h⟩
def EB.dm (e:EB W B H):∀p,B p->H p≠none:=λp h n=>by
 obtain⟨xs,q,_⟩:=e.bl p h;rw [q]at n;cases n
def EB.to (e:EB W B H) (f:Fw W H H'):EB W B H':=by
 refine⟨λp hp=>?_,e.wb,f.wo⟩;by_cases w:W p
 ·obtain⟨x,y,z,q⟩:=f.wo p w;exact⟨_,q,trivial⟩
 ·obtain⟨xs,q,m⟩:=e.bl p hp;exact⟨xs,f.fr p _ w q,m⟩
def EB.refl (e:EB W B H):Fw W H H:=⟨λ_ _ _ h=>h,e.wo⟩
def EB.new (e:EB W B H) {o:HO} (n:H p=none):Fw W H (upd H p o):=⟨λb u _ h=>by
 rw [aM (aQ h n)];exact h,λq hq=>by
 obtain⟨x,y,z,h⟩:=e.wo q hq;exact⟨x,y,z,by rw [aM (aQ h n)];exact h⟩⟩
def EB.nw (e:EB W B H) (n:H p=none):¬B p:=λh=>e.dm p h n
def EB.same (e:EB W B H) (s:fC H H'):Fw W H H':=⟨λb o _ h=>s b o h,λp hp=>by
 obtain⟨x,y,z,h⟩:=e.wo p hp;exact⟨x,y,z,s _ _ h⟩⟩
def Own.to (o:Own) (e:EB W B H) (f:Fw W H H') (n:∀b,S b->¬W b) (h:o.φ W B S H p):o.φ W B S H' p:=o.mono (e.keep f) (λb hb=>let⟨x,q,_⟩:=o.th h b hb;(f.fr b x (n b hb) q).trans q.symm) h
def Own.less (o:Own) {S T:Addr->Prop} (h:o.φ W (λb=>B b∨T b) S H p):o.φ W B S H p:=o.mono (λ_ _ n h=>⟨λz=>n (.inl z),h⟩) (λ_ _=>rfl) h
def EE.to (e:EE W B H ρ σ) (f:Fw W H H'):EE W B H' ρ σ:=
 ⟨e.eb.to f,e.len,λi u h=>let⟨v,h1,h2⟩:=e.sh i u h;⟨v,h1,DU.mono (e.eb.keep f) u h2⟩,λi s o h hs=>let⟨p,S,h1,h2,h3⟩:=e.hd i s o h hs;⟨p,S,h1,h2,o.to e.eb f h2 h3⟩⟩
def Fw.none_ (f:Fw W H H') (n1:H' p=none):H p=none:=by
 cases hp:H p with
 |none=>rfl
 |some o=>
  by_cases w:W p
  ·obtain⟨_,_,_,z⟩:=f.wo p w;rw [z]at n1;cases n1
  ·rw [f.fr p o w hp]at n1;cases n1
def RO.back {s:Sl} (f:Fw W H H') (h:RO W B H' H2 s v):RO W B H H2 s v:=by
 match s,h with
 | .sh u,h=>exact h
 | .ow l,⟨p,xs,e1,n1,h2,h3⟩=>exact⟨p,xs,e1,f.none_ n1,h2,h3⟩
 | .br l,h=>exact h
 | .oo o,⟨p,S,e1,n1,h⟩=>exact⟨p,S,e1,λb hb=>f.none_ (n1 b hb),h⟩
 | .bo o,h=>exact h
def DB.to {u:U} (h:DB W B H u v) (e:EB W B H) (f:Fw W H H'):DB W B H' u v:=by
 rcases h with h|⟨l,p,xs,e1,e2,w,h1,h2⟩
 ·exact .inl (DU.mono (e.keep f) u h)
 ·exact .inr ⟨l,p,xs,e1,e2,w,f.fr _ _ w h1,DUs.mono (e.keep f) l h2⟩
def DUs.less {l:List U} (h:DUs W (λb=>B b∨b=p) H l xs):DUs W B H l xs:=DUs.mono (λ_ _ n e=>⟨λz=>n (.inl z),e⟩) l h
def RO.db {s:Sl} (e:EB W B H) (h:RO W B H H' s v):DB W B H' s.rd v:=by
 match s,h with
 | .sh u,h=>exact .inl h
 | .ow l,⟨p,xs,e1,h1,h2,h3⟩=>exact .inl ⟨p,xs,e1,e.nw h1,h2,h3.less⟩
 | .br l,⟨p,xs,e1,h1,h2,h3⟩=>exact .inr ⟨l,p,xs,rfl,e1,h1,h2,h3⟩
 | .oo _,_=>exact .inl trivial
 | .bo _,_=>exact .inl trivial
def RO.du {s:Sl} {R:U->Prop} (e:EB W B H) (h:RO W B H H' s v) (r:s.es R):∃u,R u/\DU W B H' u v:=by
 match s,h,r with
 | .sh u,h,r=>exact⟨u,r,h⟩
 | .ow l,⟨p,xs,e1,h1,h2,h3⟩,r=>exact⟨.ls l,r,p,xs,e1,e.nw h1,h2,h3.less⟩
 | .oo o,⟨p,S,e1,h1,h2⟩,r=>exact⟨.op o.fz,r,p,S,e1,λb hb=>e.nw (h1 b hb),o.less h2⟩
def DB.int {i:Int} (h:DB W B H (.n i) y):y= .int i:=by
 rcases h with h|⟨l,p,xs,e1,_⟩
 ·exact h.1
 ·cases e1
def DB.fl {x y:V} (h:DB W B H (.v x) y):y=x/\jG x=true:=by
 rcases h with h|⟨l,p,xs,e1,_⟩
 ·exact h
 ·cases e1
def DB.tp {l:List U} (h:DB W B H (.tp l) y):∃p xs,y= .ref p/\¬B p/\H p=some (.tup xs)/\DUs W B H l xs:=by
 rcases h with h|⟨l,p,xs,e1,_⟩
 ·exact h
 ·cases e1
def DB.ob {us:List U} (h:DB W B H (.ob C ns us) y):∃p dx xs,y= .ref p/\¬B p/\H p=some (.ins C dx (ns.zip xs))/\ns.length=xs.length/\DUs W B H us xs:=by
 rcases h with h|⟨l,p,xs,e1,_⟩
 ·exact h
 ·cases e1
def DB.dk {us:List U} (h:DB W B H (.dk ns us) y):∃p xs,y= .ref p/\¬B p/\H p=some (.dK ((ns.map Ct).zip xs))/\ns.length=xs.length/\DUs W B H us xs:=by
 rcases h with h|⟨l,p,xs,e1,_⟩
 ·exact h
 ·cases e1
def DB.ls {l:List U} (e:EB W B H) (h:DB W B H (.ls l) y):∃p xs,y= .ref p/\¬W p/\H p=some (.lst xs)/\DUs W B H l xs:=by
 rcases h with ⟨p,xs,e1,nb,h1,h2⟩|⟨l,p,xs,e1,e2,w,h1,h2⟩
 ·exact⟨p,xs,e1,λw=>nb (e.wb p w),h1,h2⟩
 ·cases e1;exact⟨p,xs,e2,w,h1,h2⟩
end
abbrev TV:=EV->(Sl->Prop)->Prop
def VT (t:TE) (F:TV):Prop:=∀{W B:Addr->Prop} {ρ:EV} {σ:St} {H:Hp} {R:Sl->Prop} {Q:VK},EE W B H ρ σ->F ρ R->(∀s v H',R s->Fw W H H'->RO W B H H' s v->Q v H')->t σ H Q
def VE (X:Cx) (e:Expr) (F:TV):Prop:=∃t,PE X e t/\VT t F
abbrev TVc:=EV->(Bool->Prop)->Prop
def VTc (t:TT) (F:TVc):Prop:=∀{W B:Addr->Prop} {ρ:EV} {σ:St} {H:Hp} {R:Bool->Prop} {Q:Bool->Hp->Prop},EE W B H ρ σ->F ρ R->(∀c H',R c->Fw W H H'->Q c H')->t σ H Q
def VC (X:Cx) (e:Expr) (F:TVc):Prop:=∃t,PT X e t/\VTc t F
def VW (X:Cx) (e:Expr) (F:TVc):Prop:=∃t,PW X e t/\VTc t F
abbrev TVa:=EV->(List U->Prop)->Prop
def VTa (n:Nat) (t:TA) (F:TVa):Prop:=∀{W B:Addr->Prop} {ρ:EV} {σ:St} {H:Hp} {R:List U->Prop} {Q:List V->Hp->Prop},EE W B H ρ σ->F ρ R->(∀us vs H',R us->us.length=n->Fw W H H'->DUs W B H' us vs->Q vs H')->t σ H Q
def VA (X:Cx) (es:List Expr) (F:TVa):Prop:=∃t,PA X es t/\VTa es.length t F
def DBs (W B:Addr->Prop) (H:Hp):List U->List V->Prop
 | [],xs=>xs=[]
 |u::l,xs=>∃x r,xs=x::r/\DB W B H u x/\DBs W B H l r
def DBs.to {W B:Addr->Prop} {H H':Hp} (e:EB W B H) (f:Fw W H H'):∀{us:List U} {vs:List V},DBs W B H us vs->DBs W B H' us vs
 | [],_,h=>h
 |_::_,_,⟨x,r,e1,h,t⟩=>⟨x,r,e1,h.to e f,DBs.to e f t⟩
def VTb (t:TA) (F:TVa):Prop:=∀{W B:Addr->Prop} {ρ:EV} {σ:St} {H:Hp} {R:List U->Prop} {Q:List V->Hp->Prop},EE W B H ρ σ->F ρ R->(∀us vs H',R us->Fw W H H'->DBs W B H' us vs->Q vs H')->t σ H Q
def VB (X:Cx) (es:List Expr) (F:TVa):Prop:=∃t,PA X es t/\VTb t F
def O2 (r:R2) (g:U->U->(Sl->Prop)->Prop):Prop:=∀{W B:Addr->Prop} {H:Hp} {u v:U} {x y:V} {R:Sl->Prop} {Q:VK},EB W B H->DB W B H u x->DB W B H v y->g u v R->(∀s z H',R s->Fw W H H'->RO W B H H' s z->Q z H')->r x y H Q
def CB (r:List V->Hp->VK->Prop) (g:List U->(Sl->Prop)->Prop):Prop:=∀{W B:Addr->Prop} {H:Hp} {us:List U} {vs:List V} {R:Sl->Prop} {Q:VK},EB W B H->DBs W B H us vs->g us R->(∀s z H',R s->Fw W H H'->RO W B H H' s z->Q z H')->r vs H Q
def jE (i:Nat):TV:=λρ R=>match (ρ[i]? :Option Sl)with
 |some (.sh u)=>R (.sh u)
 |some (.ow l)=>R (.br l)
 |some (.br l)=>R (.br l)
 |some (.oo o)=>R (.bo o)
 |some (.bo o)=>R (.bo o)
 |_=>False
def vC (u:U):TV:=λ_ R=>R (.sh u)
def vOp (g:U->U->(Sl->Prop)->Prop) (a b:TV):TV:=λρ R=>a ρ λs=>b ρ λs'=>g s.rd s'.rd R
def kO (F:TV):TVc:=λρ R=>F ρ λs=>match s.rd with
 | .v (.bl c)=>R c
 |_=>False
def aUx (a b:TVc):TVc:=λρ R=>a ρ λc=>(c=true->b ρ R)/\(c=false->R false)
def vOr (a b:TVc):TVc:=λρ R=>a ρ λc=>(c=true->R true)/\(c=false->b ρ R)
def aVn (a:TVc):TVc:=λρ R=>a ρ λc=>R (!c)
def aBh:TVa:=λ_ R=>R []
def qM (a:TV) (b:TVa):TVa:=λρ R=>a ρ λs=>s.es λu=>b ρ λus=>R (u::us)
def aXp (a:TV) (b:TVa):TVa:=λρ R=>a ρ λs=>b ρ λus=>R (s.rd::us)
def aW0 (a:TVa):TV:=λρ R=>a ρ λus=>R (.sh (.tp us))
def aWx (a:TVa):TV:=λρ R=>a ρ λus=>R (.ow us)
def aEp (F:List U->(Sl->Prop)->Prop) (a:TVa):TV:=λρ R=>a ρ λus=>F us R
inductive aW9 (F:List U->(Sl->Prop)->Prop) (vs:List V) (H:Hp) (Q:VK) (z3_:XK):Prop
 |mk (W B us R:_) (q0_:EB W B H) (q1_:DUs W B H us vs) (q2_:F us R) (q3_:∀s v H',R s->Fw W H H'->RO W B H H' s v->Q v H'):aW9 F vs H Q z3_
def spV (F:List U->(Sl->Prop)->Prop):Sp:=λvs H Q z3_=>aW9 F vs H Q z3_
def aA (i:Nat) (hN:X.N[i]? =some x:=by rfl) (hv:Vis X.env.scope x:=by first|exact Bu rfl|exact Bz (Bu rfl)|exact Bz (Bz rfl)) (hd:(x==("__debug__":Str))=false:=by decide)
  (hcd:(x==("__classdict__":Str))=false:=by decide):VE X (.Name x pos) (jE i):=⟨_,lD hN hv hd hcd,λ{W B ρ σ H R Q} e h q=>by
 unfold jE at h;split at h
 ·rename_i u hu;obtain⟨v,h1,h2⟩:=e.sh i u hu;exact⟨v,h1,q _ _ _ h e.eb.refl h2⟩
 ·rename_i l hu;obtain⟨p,xs,h1,h2,h3,h4⟩:=e.ow i l (.inl hu);exact⟨_,h1,q _ _ _ h e.eb.refl ⟨p,xs,rfl,h2,h3,h4⟩⟩
 ·rename_i l hu;obtain⟨p,xs,h1,h2,h3,h4⟩:=e.ow i l (.inr hu);exact⟨_,h1,q _ _ _ h e.eb.refl ⟨p,xs,rfl,h2,h3,h4⟩⟩
 ·rename_i o hu;obtain⟨p,S,h1,h2,h3⟩:=e.hd i _ o hu rfl;exact⟨_,h1,q _ _ _ h e.eb.refl ⟨p,S,rfl,h2,h3⟩⟩
 ·rename_i o hu;obtain⟨p,S,h1,h2,h3⟩:=e.hd i _ o hu rfl;exact⟨_,h1,q _ _ _ h e.eb.refl ⟨p,S,rfl,h2,h3⟩⟩
 ·exact h.elim⟩
def aOx {x:V} (f:jG x=true):VT (tC x) (vC (.v x)):=λe h q=>q _ _ _ h e.eb.refl ⟨rfl,f⟩
def aF {i j pos}:VE X (.Constant (.int i) j pos) (vC (.n i)):=⟨_,dX,aOx rfl⟩
def bQ {x j pos}:VE X (.Constant (.str x) j pos) (vC (.s x)):=⟨_,bY,aOx rfl⟩
def tG {b j pos}:VE X (.Constant (.bool b) j pos) (vC (.b b)):=⟨_,aYl,aOx rfl⟩
def pX {j pos}:VE X (.Constant .none j pos) (vC .no):=⟨_,aWn,aOx rfl⟩
def aJg {r:R2} {g:U->U->(Sl->Prop)->Prop} {ta tb:TE} {F G:TV} (o:O2 r g) (ha:VT ta F) (hb:VT tb G):VT (tOp r ta tb) (vOp g F G):=λe h q=>by
 refine ha e h λs v H1 h1 f1 r1=>?_;have e1:=e.to f1;refine hb e1 h1 λs' v' H2 h2 f2 r2=>?_;refine o (e1.to f2).eb ((r1.db e.eb).to e1.eb f2) (r2.db e1.eb) h2 λs3 z H3 h3 f3 r3=>?_;exact q _ _ _ h3 ((f1.trans f2).trans f3) (r3.back (f1.trans f2))
def aU {op:Operator} {r:R2} {g:U->U->(Sl->Prop)->Prop} {a b:Expr} {F G:TV} (ho:OpR X (binaryOp op) r) (o:O2 r g) (ha:VE X a F) (hb:VE X b G):VE X (.BinOp a op b pos) (vOp g F G):=
 let⟨_,p,f⟩:=ha;let⟨_,p',f'⟩:=hb;⟨_,qN ho p p',aJg o f f'⟩
def bU {r:R2} {g:U->U->(Sl->Prop)->Prop} {a b:Expr} {F G:TV} (ho:IxR X r) (o:O2 r g) (ha:VE X a F) (hb:VE X b G) (hs:aJv b:=by exactλ_ _=>rfl):VE X (.Subscript a b pos) (vOp g F G):=
 let⟨_,p,f⟩:=ha;let⟨_,p',f'⟩:=hb;⟨_,xU ho p p' hs,aJg o f f'⟩
def aCw {op:CmpOp} {r:R2} {g:U->U->(Sl->Prop)->Prop} {a b:Expr} {F G:TV} (ho:OpR X (compareOp op) r) (o:O2 r g) (ha:VE X a F) (hb:VE X b G) (hm:behindInMarks op b=false:=by first|exact dC _|rfl):VE X (.Compare a [op] [b] pos) (vOp g F G):=
 let⟨_,p,f⟩:=ha;let⟨_,p',f'⟩:=hb;⟨_,aDe ho p p' hm,aJg o f f'⟩
def yQ {F:TV} (h:VT t F):VTc (aNj t) (kO F):=λe h1 q=>h e h1 λs v H1 h2 f r=>by
 have d:=r.db e.eb;revert h2 d;generalize s.rd=u;intro h2 d;split at h2
 ·exact⟨_,d.fl.1,q _ _ h2 f⟩
 ·exact h2.elim
def bW {op:CmpOp} {r:R2} {g:U->U->(Sl->Prop)->Prop} {a b:Expr} {F G:TV} (ho:OpR X (compareOp op) r) (o:O2 r g) (ha:VE X a F) (hb:VE X b G) (hm:behindInMarks op b=false:=by first|exact dC _|rfl):VC X (.Compare a [op] [b] pos) (kO (vOp g F G)):=
 let⟨_,p,f⟩:=ha;let⟨_,p',f'⟩:=hb;⟨_,cM ho p p' hm,yQ (aJg o f f')⟩
def iG {F:TV} (ha:VE X a F) (he:∀whole,isTrue a X.env whole=(do let v<-whole;standAt a.pos;holding [v] (truthy v)):=by intro _;rfl):VC X a (kO F):=
 let⟨_,p,f⟩:=ha;⟨_,aA5 p he,yQ f⟩
def gF {F:TVc} (ha:VC X a F):VC X (.UnaryOp .Not a pos) (aVn F):=let⟨_,p,f⟩:=ha;⟨_,aC9 p,λe h q=>f e h λc H1 h1 f1=>q _ _ h1 f1⟩
def tR {F:TVc} (ha:VW X a F):VC X a F:=let⟨_,p,f⟩:=ha;⟨_,p.pt,f⟩
def aJk {F:TVc} (ha:VC X a F):VW X (.BoolOp .And [a] pos) F:=let⟨_,p,f⟩:=ha;⟨_,aDh p,f⟩
def qU {F:TVc} (ha:VC X a F):VW X (.BoolOp .Or [a] pos) F:=let⟨_,p,f⟩:=ha;⟨_,aO0 p,f⟩
def aM2 {a b:Expr} {F G:TVc} (ha:VC X a F) (hb:VW X (.BoolOp .And (b::rest) pos) G):VW X (.BoolOp .And (a::b::rest) pos) (aUx F G):=
 let⟨_,p,f⟩:=ha;let⟨_,p',f'⟩:=hb;⟨_,aHd p p',λe h q=>f e h λc H1 h1 f1=>by
  cases c with
  |true=>exact aGn (f' (e.to f1) (h1.1 rfl) λc H2 h2 f2=>q _ _ h2 (f1.trans f2))
  |false=>exact qP (q _ _ (h1.2 rfl) f1)⟩
def xH {a b:Expr} {F G:TVc} (ha:VC X a F) (hb:VW X (.BoolOp .Or (b::rest) pos) G):VW X (.BoolOp .Or (a::b::rest) pos) (vOr F G):=
 let⟨_,p,f⟩:=ha;let⟨_,p',f'⟩:=hb;⟨_,aS5 p p',λe h q=>f e h λc H1 h1 f1=>by
  cases c with
  |true=>exact aGn (q _ _ (h1.1 rfl) f1)
  |false=>exact qP (f' (e.to f1) (h1.2 rfl) λc H2 h2 f2=>q _ _ h2 (f1.trans f2))⟩
def vB (F:TVc):TV:=λρ R=>F ρ λc=>R (.sh (.b c))
def aWf {F:TV} {ρ:EV} {σ:St} {W B:Addr->Prop} {H:Hp} {R:Bool->Prop} (f:VT t F) (e:EE W B H ρ σ) (h:kO F ρ R) (q:∀c H1,R c->Fw W H H1->Q (.bl c) H1):t σ H Q:=f e h λs v H1 h1 f1 r=>by
 have d:=r.db e.eb;revert h1 d;generalize s.rd=u;intro h2 d;split at h2
 ·rw [d.fl.1];exact q _ _ h2 f1
 ·exact h2.elim
def aEc {a b:Expr} {F G:TV} (ha:VE X a F) (hb:VE X (.BoolOp .And (b::rest) pos) G):VE X (.BoolOp .And (a::b::rest) pos) (vB (aUx (kO F) (kO G))):=
 let⟨ta,p,f⟩:=ha;let⟨_,p',f'⟩:=hb;⟨_,aPb p p',λe h q=>show ta _ _ _ from aWf f e h λc H1 h1 f1=>by
  refine⟨c,rfl,?_⟩;cases c with
  |true=>exact aGn (aWf f' (e.to f1) (h1.1 rfl) λc H2 h2 f2=>q _ _ _ h2 (f1.trans f2) ⟨rfl,rfl⟩)
  |false=>exact qP (q _ _ _ (h1.2 rfl) f1 ⟨rfl,rfl⟩)⟩
def aVz {F:TV} (ha:VE X a F):VE X (.UnaryOp .Not a pos) (vB (aVn (kO F))):=
 let⟨ta,p,f⟩:=ha;⟨_,aWi p,λe h q=>show ta _ _ _ from aWf f e h λc H1 h1 f1=>⟨c,rfl,q _ _ _ h1 f1 ⟨rfl,rfl⟩⟩⟩
def aH:VA X [] aBh:=⟨_,aZ,λe h q=>q _ _ _ h rfl e.eb.refl rfl⟩
def aB {es:List Expr} {F:TV} {G:TVa} (ha:VE X a F) (hb:VA X es G) (hs:starEach (a::es) X.env=(false,eval a X.env)::starEach es X.env:=by rfl):VA X (a::es) (qM F G):=
 let⟨_,p,f⟩:=ha;let⟨_,p',f'⟩:=hb;⟨_,aN p p' hs,λe h q=>f e h λs v H1 h1 f1 r1=>by
  obtain⟨u,h1,d⟩:=r1.du e.eb h1;exact f' (e.to f1) h1 λus vs H2 h2 l2 f2 d2=>q _ _ _ h2 (by rw [Ah,l2];rfl) (f1.trans f2) ⟨v,vs,rfl,DU.mono ((e.to f1).eb.keep f2) u d,d2⟩⟩
def aY:VB X [] aBh:=⟨_,aZ,λe h q=>q _ _ _ h e.eb.refl rfl⟩
def aP {es:List Expr} {F:TV} {G:TVa} (ha:VE X a F) (hb:VB X es G) (hs:starEach (a::es) X.env=(false,eval a X.env)::starEach es X.env:=by rfl):VB X (a::es) (aXp F G):=
 let⟨_,p,f⟩:=ha;let⟨_,p',f'⟩:=hb;⟨_,aN p p' hs,λe h q=>f e h λs v H1 h1 f1 r1=>
  f' (e.to f1) h1 λus vs H2 h2 f2 d2=>q _ _ _ h2 (f1.trans f2) ⟨v,vs,rfl,(r1.db e.eb).to (e.to f1).eb f2,d2⟩⟩
def cY {es:List Expr} {x1} {F:TVa} (h:VA X es F) (hl:es.length<=100:=by decide):VE X (.Tuple es x1 pos) (aW0 F):=
 let⟨_,p,f⟩:=h;⟨_,aPv p,λe h q=>f e h λus vs H1 h1 l1 f1 d=>⟨by
  have:=d.length;have:(100:Nat)<=sizeLine:=by decide
  omega,λp n=>by
  have e1:=(e.to f1).eb;have f2:=e1.new (o:= .tup vs) n;exact q _ _ _ h1 (f1.trans f2) ⟨p,vs,rfl,e1.nw n,aJ,DUs.mono (e1.keep f2) us d⟩⟩⟩
def cD {es:List Expr} {F:TVa} (h:VA X es F) (hl:es.length<=100:=by decide):VE X (.List es pos) (aWx F):=
 let⟨_,p,f⟩:=h;⟨_,aHj p,λ{W B ρ σ H R Q} e h q=>f e h λus vs H1 h1 l1 f1 d=>⟨by
  have:=d.length;have:(100:Nat)<=sizeLine:=by decide
  omega,λp n=>by
  have e1:=(e.to f1).eb;have f2:=e1.new (o:= .lst vs) n;exact q _ _ _ h1 (f1.trans f2) (RO.back (s:= .ow us) f1 ⟨p,vs,rfl,n,aJ,DUs.mono (λb o nb h=>⟨λz=>z.elim nb (aQ h n),(e1.keep f2 b o nb h).2⟩) us d⟩)⟩⟩
def aO {F:List U->(Sl->Prop)->Prop} {es:List Expr} {G:TVa} {p pos:Pos} (C:Cal X.prog X.w X.K X.mg X.base CX0 k x ps (spV F)) (hr:dH k X.A) (hg:Gl X x)
  (ha:VA X (a::es) G) (hdb:(x==("__debug__":Str))=false:=by decide) (he:starEach (a::es) X.env=(false,eval a X.env)::starEach es X.env:=by rfl) (hpl:(backTo pos (starEach es X.env)).any (·.1)=false:=by rfl):
  VE X (.Call (.Name x p) (a::es) [] pos) (aEp F G):=
 let⟨_,p,f⟩:=ha;⟨_,aV5 C hr hg bG p hdb he hpl,λe h q=>f e h λus vs H1 h1 l1 f1 d=>by
  refine⟨_,_,us,_,(e.to f1).eb,(by rw [Bg];exact d),h1,λs v H2 h2 f2 r2=>q _ _ _ h2 (f1.trans f2) (r2.back f1)⟩⟩
structure Cfl (K:Ac) (C:Addr) (fs:List Str):Prop where
 cl:Cls K C
 na:∀f∈fs,kY K C f
def wH (f:Str):List Str->List U->(Sl->Prop)->Prop
 |n::ns,u::us,R=>(n=f/\R (.sh u))∨(n≠f/\wH f ns us R)
 |_,_,_=>False
theorem aJd {W B:Addr->Prop} {H:Hp} {f:Str} {R:Sl->Prop}:∀{ns:List Str} {us:List U} {xs:List V},DUs W B H us xs->wH f ns us R->∃u v,R (.sh u)/\DU W B H u v/\(ns.zip xs).lookup f=some v
 |_::_,u::us,_,⟨x,r,e,h,t⟩,q=>by
  subst e;rcases q with ⟨rfl,q⟩|⟨n,q⟩
  ·exact⟨u,x,q,h,by simp [Bo]⟩
  ·obtain⟨u',v,h1,h2,h3⟩:=aJd t q;refine⟨u',v,h1,h2,?_⟩;rw [Gh,Bo,show(f==_)=false from beq_eq_false_iff_ne.mpr (Cy n)];exact h3
def vFl (C:Addr) (a:TV) (f:Str):TV:=λρ R=>a ρ λs=>match s.rd with
 | .ob C' ns us=>C'=C/\wH f ns us R
 |_=>False
def dI {fs:List Str} {f:Str} {F:TV} (c:Cfl X.K C fs) (ha:VE X a F) (hf:f∈fs:=by decide) (hb:attributeBase a f X.env (eval a X.env)=eval a X.env:=by rfl):VE X (.Attribute a f pos) (vFl C F f):=
 let⟨_,p,g⟩:=ha;⟨_,mK p hb,λe h q=>g e h λs v H1 h1 f1 r1=>by
  have d:=r1.db e.eb;revert h1 d;generalize s.rd=u;intro h1 d;split at h1
  ·obtain⟨rfl,h1⟩:=h1;obtain⟨p,dx,xs,rfl,_,hp,hl,ds⟩:=d.ob;obtain⟨u,v,h2,h3,h4⟩:=aJd ds h1;exact⟨p,_,dx,_,v,rfl,hp,c.cl,c.na f hf,h4,q _ _ _ h2 f1 h3⟩
  ·exact h1.elim⟩
def mOb (Cs:Addr->Prop) (m:Str) (F:Addr->List U->(Sl->Prop)->Prop) (G:TVa) (ρ:EV) (R:Sl->Prop):U->Prop
 | .ob C ns us=>Cs C/\ns.elem m=false/\G ρ λvs=>F C (.ob C ns us::vs) R
 |_=>False
def aT3 (Cs:Addr->Prop) (m:Str) (F:Addr->List U->(Sl->Prop)->Prop) (a:TV) (G:TVa):TV:=λρ R=>a ρ λs=>s.es (mOb Cs m F G ρ R)
theorem aHi {m:Str}:∀{ns:List Str} {xs:List V},ns.elem m=false->(ns.zip xs).lookup m=none
 | [],_,_=>by simp
 |_::_,[],_=>by simp
 |n::ns,x::xs,h=>by
  simp only [Rt]at h;rw [Gh,Bo];cases e:m==n with
  |true=>rw [e]at h;cases h
  |false=>
   rw [e]at h;exact aHi h
def aEg {m:Str} {F:Addr->List U->(Sl->Prop)->Prop} {o a:Expr} {es:List Expr} {apos pos:Pos} {Fo:TV} {G:TVa} {pl:Sem Bool} (ho:VE X o Fo) (D:Dis X.prog X.w X.K X.mg X.base CX0 k Cs m ps λC=>spV (F C)) (hr:dH k X.A) (ha:VA X (a::es) G)
  (hst:starEach (a::es) X.env=(false,eval a X.env)::starEach es X.env:=by rfl) (hpl:(backTo pos (starEach es X.env)).any (·.1)=false:=by rfl)
  (ht:eval (.Call (.Attribute o m apos) (a::es) [] pos) X.env=(do
   let ov<-eval o X.env
   standAt apos.atName
   let(f,first)<-holding [ov] (getMethod ov m pl)
   callWith pos f first (backTo pos (starEach (a::es) X.env)) (backToKw pos (keywordEach [] X.env))):=by rfl):
  VE X (.Call (.Attribute o m apos) (a::es) [] pos) (aT3 Cs m F Fo G):=
 let⟨_,p,g⟩:=ho;let⟨_,p',g'⟩:=ha;⟨_,cH p D hr bG p' hst hpl ht,λe h q=>g e h λs v H1 h1 f1 r1=>by
  obtain⟨u,h1,d⟩:=r1.du e.eb h1;match u,h1,d with
  | .ob C ns us,⟨hC,hm,h1⟩,d=>
   obtain⟨p,dx,xs,rfl,nb,hp,hl,ds⟩:=id d;refine⟨p,C,dx,_,rfl,hp,hC,aHi hm,g' (e.to f1) h1 λvs ws H2 h2 _ f2 d2=>?_⟩;have e2:=(e.to f1).eb;exact⟨_,_,.ob C ns us::vs,_,e2.to f2,⟨_,_,rfl,DU.mono (e2.keep f2) _ d,d2⟩,h2,λs v H3 h3 f3 r3=>q _ _ _ h3 ((f1.trans f2).trans f3) (r3.back (f1.trans f2))⟩⟩
def cI {m:Str} {F:Addr->List U->(Sl->Prop)->Prop} {o:Expr} {apos pos:Pos} {Fo:TV} {pl:Sem Bool} (ho:VE X o Fo) (D:Dis X.prog X.w X.K X.mg X.base CX0 k Cs m ps λC=>spV (F C)) (hr:dH k X.A)
  (ht:eval (.Call (.Attribute o m apos) [] [] pos) X.env=(do
   let ov<-eval o X.env
   standAt apos.atName
   let(f,first)<-holding [ov] (getMethod ov m pl)
   callWith pos f first (backTo pos (starEach [] X.env)) (backToKw pos (keywordEach [] X.env))):=by rfl):
  VE X (.Call (.Attribute o m apos) [] [] pos) (aT3 Cs m F Fo aBh):=
 let⟨_,p,g⟩:=ho;⟨_,bH p D hr bG ht,λe h q=>g e h λs v H1 h1 f1 r1=>by
  obtain⟨u,h1,d⟩:=r1.du e.eb h1;match u,h1,d with
  | .ob C ns us,⟨hC,hm,h1⟩,d=>
   obtain⟨p,dx,xs,rfl,nb,hp,hl,ds⟩:=id d;exact⟨p,C,dx,_,rfl,hp,hC,aHi hm,_,_,[.ob C ns us],_,(e.to f1).eb,⟨_,_,rfl,d,rfl⟩,h1,λs v H3 h3 f3 r3=>q _ _ _ h3 (f1.trans f3) (r3.back f1)⟩⟩
def gI (f:Int->Int->V):U->U->(Sl->Prop)->Prop
 | .v (.int i),.v (.int j),R=>R (.sh (.v (f i j)))
 |_,_,_=>False
def gIC (C:Int->Int->Prop) (f:Int->Int->V):U->U->(Sl->Prop)->Prop
 | .v (.int i),.v (.int j),R=>C i j/\R (.sh (.v (f i j)))
 |_,_,_=>False
def cF (hf:∀i j,jG (f i j)=true:=by intros;rfl):O2 (rI0 f) (gI f):=λ{W B H u v x y R Q} e d1 d2 h q=>by
 unfold gI at h;split at h
 ·rename_i i j;exact⟨i,j,d1.int,d2.int,q _ _ _ h e.refl ⟨rfl,hf i j⟩⟩
 ·exact h.elim
def jK {C:Int->Int->Prop} (hf:∀i j,jG (f i j)=true:=by intros;rfl):O2 (rI C f) (gIC C f):=λ{W B H u v x y R Q} e d1 d2 h q=>by
 unfold gIC at h;split at h
 ·rename_i i j;exact⟨i,j,d1.int,d2.int,h.1,q _ _ _ h.2 e.refl ⟨rfl,hf i j⟩⟩
 ·exact h.elim
def aR4 {α β:Type} {xs:List α} {ys:List β} {i:Int} {x:α} (e:xs.length=ys.length) (h:atI xs i=some x):∃(j:Nat) (y:β),xs[j]? =some x/\ys[j]? =some y/\atI ys i=some y:=by
 unfold atI at h⊢;rw [<-e];cases q:ixN xs.length i with
 |none=>rw [q]at h;cases h
 |some j=>
  rw [q]at h;have h':xs[j]? =some x:=h;have hj:=(List.getElem?_eq_some_iff.mp h').1;exact⟨j,_,h',Ak (by rw [<-e];exact hj),Ak (by rw [<-e];exact hj)⟩
def DUs.atI {W B:Addr->Prop} {H:Hp} {l:List U} {i:Int} {u:U} (d:DUs W B H l xs) (h:atI l i=some u):∃x,L2.atI xs i=some x/\DU W B H u x:=by
 obtain⟨j,x,h1,h2,h3⟩:=aR4 d.length h;obtain⟨y,h4,h5⟩:=d.get h1;rw [h2]at h4;cases h4;exact⟨x,h3,h5⟩
def aWy:U->U->(Sl->Prop)->Prop
 | .ls l,.v (.int i),R=>∃u,atI l i=some u/\R (.sh u)
 |_,_,_=>False
def aYy:U->U->(Sl->Prop)->Prop
 | .tp l,.v (.int i),R=>∃u,atI l i=some u/\R (.sh u)
 |_,_,_=>False
def aWb {K:Ac}:O2 (aUk K) aWy:=λ{W B H u v x y R Q} e d1 d2 h q=>by
 unfold aWy at h;split at h
 ·obtain⟨w,h1,h2⟩:=h;obtain⟨p,xs,rfl,_,hp,ds⟩:=d1.ls e;obtain⟨z,h3,h4⟩:=ds.atI h1;exact⟨p,xs,_,z,rfl,d2.int,SqL.of hp,h3,q _ _ _ h2 e.refl h4⟩
 ·exact h.elim
def aVq {K:Ac}:O2 (aVy K) aYy:=λ{W B H u v x y R Q} e d1 d2 h q=>by
 unfold aYy at h;split at h
 ·obtain⟨w,h1,h2⟩:=h;obtain⟨p,xs,rfl,_,hp,ds⟩:=d1.tp;obtain⟨z,h3,h4⟩:=ds.atI h1;exact⟨p,xs,_,z,rfl,d2.int,SqT.of hp,h3,q _ _ _ h2 e.refl h4⟩
 ·exact h.elim
mutual
def U.d:U->D
 | .v x=> .fl x
 | .tp l=> .tp (U.ds l)
 | .ls l=> .ls (U.ds l)
 |_=> .fl .non
def U.ds:List U->List D
 | []=>[]
 |u::l=>U.d u::U.ds l
end
mutual
def U.dt:Nat->U->Prop
 |_,.v _=>True
 |n+1,.tp l=>U.dts n l
 |n+1,.ls l=>U.dts n l
 |_,_=>False
def U.dts:Nat->List U->Prop
 |_,[]=>True
 |n,u::l=>U.dt n u/\U.dts n l
end
section
variable {W B:Addr->Prop} {H:Hp} {K:Ac}
mutual
theorem DU.den:∀(n:Nat) (u:U) {v:V},u.dt n->DU W B H u v->Den K H u.d v
 |_,.v _,_,_,h=>h
 |n+1,.tp l,_,t,⟨p,xs,e,_,hp,ds⟩=>⟨p,xs,e,SqT.of hp,DUs.dens n l t ds⟩
 |n+1,.ls l,_,t,⟨p,xs,e,_,hp,ds⟩=>⟨p,xs,e,SqL.of hp,DUs.dens n l t ds⟩
theorem DUs.dens:∀(n:Nat) (l:List U) {xs:List V},U.dts n l->DUs W B H l xs->wC K H (U.ds l) xs
 |_,[],_,_,h=>h
 |n,u::l,_,⟨t,t'⟩,⟨x,r,e,h,h'⟩=>⟨x,r,e,DU.den n u t h,DUs.dens n l t' h'⟩
end
mutual
theorem U.dep:∀(n:Nat) (u:U),u.dt n->u.d.dep<=n
 |_,.v _,_=>Bb _
 |n+1,.tp l,t=>Li (U.deps n l t)
 |n+1,.ls l,t=>Li (U.deps n l t)
theorem U.deps:∀(n:Nat) (l:List U),U.dts n l->D.deps (U.ds l)<=n
 |_,[],_=>Bb _
 |n,u::l,⟨t,t'⟩=>Nat.max_le.mpr ⟨U.dep n u t,U.deps n l t'⟩
end
def DB.den {n:Nat} {u:U} (t:u.dt n) (h:DB W B H u v):Den K H u.d v:=by
 rcases h with h|⟨l,p,xs,rfl,rfl,w,h1,h2⟩
 ·exact DU.den n u t h
 ·match n,t with
  |n+1,t=>exact⟨p,xs,rfl,SqL.of h1,DUs.dens n l t h2⟩
end
def U.eq (u v:U):Bool:=u.d.eq v.d
def gEq (neg:Bool):U->U->(Sl->Prop)->Prop:=λu v R=>u.dt 40/\v.dt 40/\R (.sh (.b (if neg then !u.eq v else u.eq v)))
def jH {K:Ac} {neg:Bool}:O2 (aWr K neg) (gEq neg):=λ{W B H u v x y R Q} e d1 d2 ⟨t1,t2,h⟩ q=>by
 have h1:=U.dep 40 u t1;have h2:=U.dep 40 v t2;exact⟨u.d,v.d,d1.den t1,d2.den t2,by omega,q _ _ _ h e.refl ⟨rfl,rfl⟩⟩
structure aAk where
 nx:EV->Prop
 rt:Sl->Prop
 bk:EV->Prop:=λ_=>False
 ct:EV->Prop:=λ_=>False
abbrev TVS:=aAk->EV->Prop
def Bx (B:Addr->Prop) (A:Nat->Addr->Prop) (p:Addr):Prop:=B p∨∃i,A i p
def Sl.brd:Sl->Bool
 | .br _=>true
 | .bo _=>true
 |_=>false
structure EO (W B:Addr->Prop) (H0:Hp) (A:Nat->Addr->Prop) (ρ:EV) (σ:St) (H:Hp):Prop where
 eb:EB W B H0
 fw:Fw W H0 H
 len:ρ.length=σ.length
 an:∀i p,A i p->H0 p=none
 aw:∀i p,A i p->∃o,H p=some o/\Mt o
 inj:∀i j p,A i p->A j p->i=j
 sh:∀(i:Nat) (u:U),ρ[i]? =some (Sl.sh u)->∃v,σ[i]? =some (some v)/\DU W (Bx B A) H u v
 hd:∀(i:Nat) (s:Sl) (w:Own),ρ[i]? =some s->s.hold=some w->∃p,σ[i]? =some (some (V.ref p))/\w.φ W (Bx B A) (A i) H p
 nb:∀(i:Nat) (s:Sl),ρ[i]? =some s->s.brd=false
def EO.ow {W B:Addr->Prop} {H0 H:Hp} {A:Nat->Addr->Prop} {ρ:EV} {σ:St} (o:EO W B H0 A ρ σ H) (i:Nat) (l:List U) (h:ρ[i]? =some (Sl.ow l)):∃p xs,σ[i]? =some (some (V.ref p))/\(∀b,A i b↔b=p)/\H p=some (.lst xs)/\DUs W (Bx B A) H l xs:=let⟨p,h1,h2,xs,h3⟩:=o.hd i _ _ h rfl;⟨p,xs,h1,h2,h3⟩
structure aZ0 (W B:Addr->Prop) (H0:Hp) (E:aAk) (D:Ends):Prop where
 nx:∀{A ρ σ H},EO W B H0 A ρ σ H->E.nx ρ->D.nx σ H
 bk:∀{A ρ σ H},EO W B H0 A ρ σ H->E.bk ρ->D.bk σ H
 ct:∀{A ρ σ H},EO W B H0 A ρ σ H->E.ct ρ->D.ct σ H
 rt:∀{s v H},Fw W H0 H->RO W B H0 H s v->E.rt s->D.rt v H
def VTs (t:TS) (G:TVS):Prop:=∀{W B:Addr->Prop} {H0:Hp} {A:Nat->Addr->Prop} {ρ:EV} {σ:St} {H:Hp} {E:aAk} {D:Ends},EO W B H0 A ρ σ H->G E ρ->aZ0 W B H0 E D->t D σ H
def VS (X:Cx) (st:Stmt) (G:TVS):Prop:=∃t,PS X st t/\VTs t G
def VSs (X:Cx) (st:List Stmt) (G:TVS):Prop:=∃t,PSs X st t/\VTs t G
section
variable {W B:Addr->Prop} {H0 H H1:Hp} {A:Nat->Addr->Prop} {ρ:EV} {σ:St}
def EO.now (o:EO W B H0 A ρ σ H) (h:H0 p=none):¬B p:=λz=>o.eb.dm p z h
def EO.awn (o:EO W B H0 A ρ σ H) (h:A i p):H p≠none:=λn=>by
 obtain⟨xs,q,_⟩:=o.aw i p h;rw [q]at n;cases n
def EO.nw (o:EO W B H0 A ρ σ H) (h:A i p):¬W p:=λz=>o.now (o.an i p h) (o.eb.wb p z)
def EO.ee (o:EO W B H0 A ρ σ H):EE W (Bx B A) H ρ σ:=
 ⟨⟨λp h=>h.elim ((o.eb.to o.fw).bl p) λ⟨i,h⟩=>o.aw i p h,λp w=> .inl (o.eb.wb p w),o.fw.wo⟩,o.len,o.sh,λi s w h hs=>let⟨p,h1,h3⟩:=o.hd i s w h hs;⟨p,_,h1,λ_=>o.nw,h3⟩⟩
def EO.to (o:EO W B H0 A ρ σ H) (f:Fw W H H1):EO W B H0 A ρ σ H1:=by
 have e:=o.ee;have e1:=e.to f;refine⟨o.eb,o.fw.trans f,o.len,o.an,λi p h=>e1.eb.bl p (.inr ⟨i,h⟩),o.inj,e1.sh,λi s w h hs=>?_,o.nb⟩;obtain⟨p,h1,h3⟩:=o.hd i s w h hs;exact⟨p,h1,w.to e.eb f (λ_=>o.nw) h3⟩
def cU {l:List α} {i j:Nat} {x y:α} (h:(l.set i x)[j]? =some y):(j=i/\y=x/\i<l.length)∨(j≠i/\l[j]? =some y):=by
 rw [Kk]at h;split at h
 ·rename_i e;split at h
  ·cases h;exact .inl ⟨e.symm,rfl,by assumption⟩
  ·cases h
 ·rename_i e;exact .inr ⟨λz=>e z.symm,h⟩
def get_set {l:List α} {x:α} (h:i<l.length):(l.set i x)[i]? =some x:=by rw [Kk];simp [h]
def fQ {l:List α} {i j:Nat} {x:α} (h:j≠i):(l.set i x)[j]? =l[j]? :=by rw [Kk,if_neg (Cy h)]
def EO.kp:∀b o,¬Bx B A b->H b=some o->¬Bx B (λj q=>j≠i/\A j q) b/\H b=some o:=λb o n h=>⟨λz=>n (z.elim .inl λ⟨j,h⟩=> .inr ⟨j,h.2⟩),h⟩
def Own.at_ (w:Own) {S T:Addr->Prop} (h:w.φ W B S H p) (e:∀b,T b↔S b):w.φ W B T H p:=by
 rw [show T=S from funext λb=>propext (e b)];exact h
def aHh {i j:Nat} (n:j≠i):∀b,(j≠i/\A j b)↔A j b:=λ_=>⟨λh=>h.2,λh=>⟨n,h⟩⟩
def EO.setSh (o:EO W B H0 A ρ σ H) {u:U} (d:DU W (Bx B A) H u v):EO W B H0 (λj q=>j≠i/\A j q) (ρ.set i (.sh u)) (σ.set i (some v)) H:=by
 refine⟨o.eb,o.fw,by rw [Cm,Cm,o.len],λj p h=>o.an j p h.2,λj p h=>o.aw j p h.2,λj j' p h h'=>o.inj j j' p h.2 h'.2,λj u' h=>?_,λj s w h hs=>?_,λj s h=>?_⟩
 ·rcases cU h with ⟨rfl,e,hl⟩|⟨ne,h⟩
  ·cases e;exact⟨v,get_set (o.len▸hl),DU.mono EO.kp u d⟩
  ·obtain⟨v',h1,h2⟩:=o.sh j u' h;exact⟨v',by rw [fQ ne];exact h1,DU.mono EO.kp u' h2⟩
 ·rcases cU h with ⟨rfl,rfl,hl⟩|⟨ne,h⟩
  ·cases hs
  ·obtain⟨p,h1,h3⟩:=o.hd j s w h hs;exact⟨p,by rw [fQ ne];exact h1,w.at_ (w.mono EO.kp (λ_ _=>rfl) h3) (aHh ne)⟩
 ·rcases cU h with ⟨rfl,rfl,hl⟩|⟨ne,h⟩
  ·rfl
  ·exact o.nb j s h
def EO.setOo (o:EO W B H0 A ρ σ H) (f:Fw W H H1) {s:Sl} {w:Own} (hs:s.hold=some w) (hb:s.brd=false) (n:∀b,S b->H b=none) (d:w.φ W (λb=>Bx B A b∨S b) S H1 p):
  EO W B H0 (λj q=>(j=i/\S q)∨(j≠i/\A j q)) (ρ.set i s) (σ.set i (some (.ref p))) H1:=by
 have o1:=o.to f;have k0:∀b o,¬(Bx B A b∨S b)->H1 b=some o->¬Bx B (λj q=>(j=i/\S q)∨(j≠i/\A j q)) b/\H1 b=some o:=λb o n h=>⟨λz=>n (z.elim (λz=> .inl (.inl z)) λ⟨j,h⟩=>h.elim (λz=> .inr z.2) λz=> .inl (.inr ⟨j,z.2⟩)),h⟩;have k:∀b o,¬Bx B A b->H b=some o->¬Bx B (λj q=>(j=i/\S q)∨(j≠i/\A j q)) b/\H1 b=some o:=λb x nb h=>k0 b x (λz=>z.elim nb λz=>by rw [n b z]at h;cases h) (o.ee.eb.keep f b x nb h).2;refine⟨o.eb,o1.fw,by rw [Cm,Cm,o.len],λj q h=>?_,λj q h=>?_,λj j' q h h'=>?_,λj u' h=>?_,λj s' w' h hs'=>?_,λj s' h=>?_⟩
 ·rcases h with ⟨_,h⟩|⟨_,h⟩
  ·exact o.fw.none_ (n q h)
  ·exact o.an j q h
 ·rcases h with ⟨_,h⟩|⟨_,h⟩
  ·exact w.th d q h
  ·exact o1.aw j q h
 ·rcases h with ⟨e1,e2⟩|⟨_,h⟩
  ·rcases h' with ⟨e3,_⟩|⟨_,h'⟩
   ·rw [e1,e3]
   ·exact(o.awn h' (n q e2)).elim
  ·rcases h' with ⟨_,e3⟩|⟨_,h'⟩
   ·exact(o.awn h (n q e3)).elim
   ·exact o.inj j j' q h h'
 ·rcases cU h with ⟨rfl,rfl,hl⟩|⟨ne,h⟩
  ·cases hs
  ·obtain⟨v',h1,h2⟩:=o.sh j u' h;exact⟨v',by rw [fQ ne];exact h1,DU.mono k u' h2⟩
 ·rcases cU h with ⟨rfl,rfl,hl⟩|⟨ne,h⟩
  ·rw [hs]at hs';cases hs';exact⟨p,get_set (o.len▸hl),w.at_ (w.mono k0 (λ_ _=>rfl) d) λb=>⟨λh=>h.elim (λh=>h.2) λh=>absurd rfl h.1,λh=> .inl ⟨rfl,h⟩⟩⟩
  ·obtain⟨q,h1,h3⟩:=o.hd j s' w' h hs';exact⟨q,by rw [fQ ne];exact h1,w'.at_ (w'.mono k (λb hb=>let⟨x,hx,_⟩:=w'.th h3 b hb;(f.fr b x (o.nw hb) hx).trans hx.symm) h3) λb=>⟨λh=>h.elim (λh=>absurd h.1 ne) λh=>h.2,λh=> .inr ⟨ne,h⟩⟩⟩
 ·rcases cU h with ⟨rfl,rfl,hl⟩|⟨ne,h⟩
  ·exact hb
  ·exact o.nb j s' h
def EO.setOw (o:EO W B H0 A ρ σ H) (f:Fw W H H1) {l:List U} (n:H p=none) (hp:H1 p=some (.lst xs)) (d:DUs W (λb=>Bx B A b∨b=p) H1 l xs):
  EO W B H0 (λj q=>(j=i/\q=p)∨(j≠i/\A j q)) (ρ.set i (.ow l)) (σ.set i (some (.ref p))) H1:=o.setOo f (s:= .ow l) (S:=(·=p)) rfl rfl (λb hb=>by rw [hb];exact n) ⟨λ_=>Mh,xs,hp,d⟩
end
section
variable {W B:Addr->Prop} {H0 H H1:Hp} {A:Nat->Addr->Prop} {ρ:EV} {σ:St}
def EO.chg (o:EO W B H0 A ρ σ H) {s':Sl} {w':Own} {x:HO} {p q:Addr} (hg:σ[i]? =some (some (V.ref p))) (hq:A i q) (hs':s'.hold=some w') (hb:s'.brd=false) (d:w'.φ W (Bx B A) (A i) (upd H q x) p):EO W B H0 A (ρ.set i s') σ (upd H q x):=by
 have k:∀b y,¬Bx B A b->H b=some y->¬Bx B A b/\upd H q x b=some y:=λb y n h=>⟨n,(aM (λz:b=q=>n (by rw [z];exact .inr ⟨i,hq⟩))).trans h⟩;refine⟨o.eb,⟨λb y w h=>?_,λr hr=>?_⟩,by rw [Cm,o.len],o.an,λj r h=>?_,o.inj,λj u h=>?_,λj m v h hm=>?_,λj m h=>?_⟩
 ·rw [aM (aQ h (o.an i q hq))];exact o.fw.fr b y w h
 ·obtain⟨x,y,z,h⟩:=o.fw.wo r hr;exact⟨x,y,z,(aM (λe:r=q=>o.nw hq (by rw [<-e];exact hr))).trans h⟩
 ·by_cases e:r=q
  ·rw [e];exact w'.th d q hq
  ·rw [aM e];exact o.aw j r h
 ·rcases cU h with ⟨rfl,rfl,hl⟩|⟨ne,h⟩
  ·cases hs'
  ·obtain⟨v',h1,h2⟩:=o.sh j u h;exact⟨v',h1,DU.mono k u h2⟩
 ·rcases cU h with ⟨rfl,rfl,hl⟩|⟨ne,h⟩
  ·rw [hs']at hm;cases hm;exact⟨p,hg,d⟩
  ·obtain⟨r,h1,h3⟩:=o.hd j m v h hm;exact⟨r,h1,v.mono k (λb hb=>aM (λe:b=q=>ne (o.inj j i q (by rw [<-e];exact hb) hq))) h3⟩
 ·rcases cU h with ⟨rfl,rfl,hl⟩|⟨ne,h⟩
  ·exact hb
  ·exact o.nb j m h
def EO.own (o:EO W B H0 A ρ σ H) {l':List U} {xs':List V} (hg:σ[i]? =some (some (V.ref p))) (hp:∀b,A i b↔b=p) (d:DUs W (Bx B A) H l' xs'):EO W B H0 A (ρ.set i (.ow l')) σ (upd H p (.lst xs')):=
 o.chg hg ((hp p).mpr rfl) (s':= .ow l') rfl rfl ⟨hp,xs',aJ,DUs.mono (λb y n h=>⟨n,(aM (λz:b=p=>n (by rw [z];exact .inr ⟨i,(hp p).mpr rfl⟩))).trans h⟩) l' d⟩
def EO.frz (o:EO W B H0 A ρ σ H) {i:Nat} {s:Sl} {w:Own} {u:U} (hi:ρ[i]? =some s) (hs:s.hold=some w) (hu:∀{W B S H p},(∀b,S b->¬B b)->w.φ W B S H p->DU W B H u (.ref p)):EO W B H0 (λj q=>j≠i/\A j q) (ρ.set i (.sh u)) σ H:=by
 refine⟨o.eb,o.fw,by rw [Cm,o.len],λj p h=>o.an j p h.2,λj p h=>o.aw j p h.2,λj j' p h h'=>o.inj j j' p h.2 h'.2,λj u' h=>?_,λj m v h hm=>?_,λj m h=>?_⟩
 ·rcases cU h with ⟨rfl,e,hl⟩|⟨ne,h⟩
  ·cases e;obtain⟨p,h1,h3⟩:=o.hd j s w hi hs;exact⟨_,h1,hu (λb hb z=>z.elim (o.now (o.an j b hb)) λ⟨j',h⟩=>h.1 (o.inj j' j b h.2 hb)) (w.mono EO.kp (λ_ _=>rfl) h3)⟩
  ·obtain⟨v',h1,h2⟩:=o.sh j u' h;exact⟨v',h1,DU.mono EO.kp u' h2⟩
 ·rcases cU h with ⟨rfl,rfl,hl⟩|⟨ne,h⟩
  ·cases hm
  ·obtain⟨p,h1,h3⟩:=o.hd j m v h hm;exact⟨p,h1,v.at_ (v.mono EO.kp (λ_ _=>rfl) h3) (aHh ne)⟩
 ·rcases cU h with ⟨rfl,rfl,hl⟩|⟨ne,h⟩
  ·rfl
  ·exact o.nb j m h
def aYf {l:List U}:∀{W B S H p},(∀b,S b->¬B b)->(lsO l).φ W B S H p->DU W B H (.ls l) (.ref p):=λn ⟨s,xs,h,d⟩=>⟨_,xs,rfl,n _ ((s _).mpr rfl),h,d⟩
def aY0 {w:Own}:∀{W B S H p},(∀b,S b->¬B b)->w.φ W B S H p->DU W B H (.op w.fz) (.ref p):=λn h=>⟨_,_,rfl,n,h⟩
structure Rb (W:Addr->Prop) (H0 H1:Hp):Prop where
 le:∀b o,¬W b->H0 b=some o->H1 b=some o
 no:∀p,H1 p=none->H0 p=none
def EO.un {H0':Hp} (o:EO W B H0' A ρ σ H) (e:EB W B H0) (r:Rb W H0 H0'):EO W B H0 A ρ σ H:=
 ⟨e,⟨λb x w h=>o.fw.fr b x w (r.le b x w h),o.fw.wo⟩,o.len,λi p h=>r.no p (o.an i p h),o.aw,o.inj,o.sh,o.hd,o.nb⟩
def RO.un {H0':Hp} {s:Sl} (r:Rb W H0 H0') (h:RO W B H0' H s v):RO W B H0 H s v:=by
 match s,h with
 | .sh u,h=>exact h
 | .ow l,⟨p,xs,e1,n1,h2,h3⟩=>exact⟨p,xs,e1,r.no p n1,h2,h3⟩
 | .br l,h=>exact h
 | .oo w,⟨p,S,e1,n1,h⟩=>exact⟨p,S,e1,λb hb=>r.no b (n1 b hb),h⟩
 | .bo w,h=>exact h
open Classical in
def EO.reb (o:EO W B H0 A ρ σ H):∃H0',EO W B H0' A ρ σ H/\Rb W H0 H0'/\∀b x,(¬ ∃i,A i b)->H b=some x->H0' b=some x:=by
 refine⟨λb=>if∃i,A i b then none else H b,?_,?_,λb x n h=>(if_neg n).trans h⟩
 ·have nb:∀p,B p->¬ ∃i,A i p:=λp hp ⟨i,h⟩=>o.now (o.an i p h) hp;refine⟨⟨λp hp=>by rw [if_neg (nb p hp)];exact o.ee.eb.bl p (.inl hp),o.eb.wb,λp hp=>?_⟩,⟨λb x w h=>?_,o.fw.wo⟩,o.len,λi p h=>if_pos ⟨i,h⟩,o.aw,o.inj,o.sh,o.hd,o.nb⟩
  ·obtain⟨x,y,z,h⟩:=o.fw.wo p hp;exact⟨x,y,z,(if_neg (nb p (o.eb.wb p hp))).trans h⟩
  ·split at h
   ·cases h
   ·exact h
 ·refine⟨λb x w h=>?_,λp h=>?_⟩
  ·refine(if_neg λ⟨i,q⟩=>?_).trans (o.fw.fr b x w h);rw [o.an i b q]at h;cases h
  ·split at h
   ·rename_i q;obtain⟨i,q⟩:=q;exact o.an i p q
   ·cases q:H0 p with
    |none=>rfl
    |some x=>
     by_cases w:W p
     ·obtain⟨_,_,_,z⟩:=o.fw.wo p w;rw [z]at h;cases h
     ·rw [o.fw.fr p x w q]at h;cases h
end
def aNm (t u:TVS):TVS:=λE ρ=>t {E with nx:=u E} ρ
def aJz:TVS:=λE ρ=>E.nx ρ
def vIf (c:TVc) (t u:TVS):TVS:=λE ρ=>c ρ λb=>(b=true->t E ρ)/\(b=false->u E ρ)
def aYr (i:Nat) (ρ:EV) (k:EV->Prop):Sl->Prop
 | .sh u=>k (ρ.set i (.sh u))
 | .ow l=>k (ρ.set i (.ow l))
 | .oo w=>k (ρ.set i (.oo w))
 |_=>False
def aUf (i:Nat) (F:TV):TVS:=λE ρ=>F ρ (aYr i ρ E.nx)
def aQl (F:TV):TVS:=λE ρ=>F ρ λs=>match s with
 | .br _=>False
 | .bo _=>False
 |s=>E.rt s
def aO3 (i:Nat):TVS:=λE ρ=>match (ρ[i]? :Option Sl)with
 |some (.sh u)=>E.rt (.sh u)
 |some (.ow l)=>E.rt (.ow l)
 |some (.oo w)=>E.rt (.oo w)
 |_=>False
def vDo (F:TV):TVS:=λE ρ=>F ρ λ_=>E.nx ρ
def aWw (i:Nat) (G:TVS):TVS:=λE ρ=>match (ρ[i]? :Option Sl)with
 |some (.ow l)=>G E (ρ.set i (.sh (.ls l)))
 |some (.oo w)=>G E (ρ.set i (.sh (.op w.fz)))
 |_=>G E ρ
def aV4 (i:Nat) (F:TV):TVS:=λE ρ=>match (ρ[i]? :Option Sl)with
 |some (.ow l)=>l.length<10000/\F ρ λs=>s.es λu=>E.nx (ρ.set i (.ow (l++[u])))
 |_=>False
def aUl (i:Nat) (F:TV):TVS:=λE ρ=>match (ρ[i]? :Option Sl)with
 |some (.ow l)=>F ρ λs=>match s.rd with
  | .ls m=>l.length+m.length<10000/\E.nx (ρ.set i (.ow (l++m)))
  |_=>False
 |_=>False
abbrev TVg:=U->EV->(EV->Prop)->Prop
def VTg (g:TG) (G:TVg):Prop:=∀{W B:Addr->Prop} {H0:Hp} {A:Nat->Addr->Prop} {ρ:EV} {σ:St} {H:Hp} {u:U} {v:V} {k:EV->Prop} {Q:St->Hp->Prop},EO W B H0 A ρ σ H->DU W (Bx B A) H u v->G u ρ k->(∀A' ρ' σ',EO W B H0 A' ρ' σ' H->k ρ'->Q σ' H)->g v σ H Q
def VG (X:Cx) (tg:Expr) (G:TVg):Prop:=∃g,PG X tg g/\VTg g G
def aZ7 (g:TGs) (is:List Nat):Prop:=∀{W B:Addr->Prop} {H0:Hp} {A:Nat->Addr->Prop} {ρ:EV} {σ:St} {H:Hp} {us:List U} {vs:List V} {k:EV->Prop} {Q:St->Hp->Prop},EO W B H0 A ρ σ H->DUs W (Bx B A) H us vs->us.length=is.length->k ((is.zip us).foldl (λρ x=>ρ.set x.1 (.sh x.2)) ρ)->(∀A' ρ' σ',EO W B H0 A' ρ' σ' H->k ρ'->Q σ' H)->g vs σ H Q
def VGs (X:Cx) (es:List Expr) (is:List Nat):Prop:=∃g,PGs X es g/\aZ7 g is
def kZ (i:Nat):TVg:=λu ρ k=>k (ρ.set i (.sh u))
def aSu (is:List Nat):TVg:=λu ρ k=>match u with
 | .tp us=>us.length=is.length/\k ((is.zip us).foldl (λρ x=>ρ.set x.1 (.sh x.2)) ρ)
 |_=>False
def lY (g:TVg) (b:TVS) (E:aAk):List U->EV->Prop
 | [],ρ=>E.nx ρ
 |u::r,ρ=>g u ρ λρ1=>b {E with nx:=lY g b E r,ct:=lY g b E r,bk:=E.nx} ρ1
def aYw (g:TVg) (F:TVa) (b:TVS):TVS:=λE ρ=>F ρ λl=>lY g b E l ρ
def aZs (g:TVg) (F:TV):TVS:=λE ρ=>F ρ λs=>s.es λu=>g u ρ E.nx
def bK:VSs X [] aJz:=⟨_,bZ,λo h i=>i.nx o h⟩
def aG {st:Stmt} {G:TVS} (h:VS X st G):VSs X [st] G:=let⟨_,p,f⟩:=h;⟨_,aR p,f⟩
def aD {st:Stmt} {rest:List Stmt} {F G:TVS} (h:VS X st F) (h':VSs X rest G):VSs X (st::rest) (aNm F G):=
 let⟨_,p,f⟩:=h;let⟨_,p',f'⟩:=h';⟨_,aK p p',λo h i=>f o h ⟨λo1 h1=>f' o1 h1 i,i.bk,i.ct,i.rt⟩⟩
def qI {st:List Stmt} {G:TVS} (i:Nat) (h:VSs X st G):VSs X st (aWw i G):=let⟨_,p,f⟩:=h;⟨_,p,λo h j=>by
 unfold aWw at h;split at h
 ·rename_i hi;exact f (o.frz hi rfl aYf) h j
 ·rename_i hi;exact f (o.frz hi rfl aY0) h j
 ·exact f o h j⟩
def cW {c:Expr} {a b:List Stmt} {C:TVc} {F G:TVS} (hc:VC X c C) (ha:VSs X a F) (hb:VSs X b G):VS X (.If c a b pos) (vIf C F G):=
 let⟨_,p,f⟩:=hc;let⟨_,p1,f1⟩:=ha;let⟨_,p2,f2⟩:=hb;⟨_,fD p p1 p2,λo h i=>f o.ee h λc H1 h1 w=>by
  cases c with
  |true=>exact aGn (f1 (o.to w) (h1.1 rfl) i)
  |false=>exact qP (f2 (o.to w) (h1.2 rfl) i)⟩
def aPl {W B:Addr->Prop} {H0 H H1:Hp} {A:Nat->Addr->Prop} {ρ:EV} {σ:St} {s:Sl} {k:EV->Prop} {Q:St->Hp->Prop} (o:EO W B H0 A ρ σ H) (f:Fw W H H1) (r:RO W (Bx B A) H H1 s v) (h:aYr i ρ k s) (q:∀{A' ρ' σ'},EO W B H0 A' ρ' σ' H1->k ρ'->Q σ' H1):Q (σ.set i (some v)) H1:=by
 match s,r,h with
 | .sh u,r,h=>exact q ((o.to f).setSh r) h
 | .ow l,⟨p,xs,e1,h1,h2,h3⟩,h=>
  subst e1;exact q (o.setOw f h1 h2 h3) h
 | .oo w,⟨p,S,e1,h1,h2⟩,h=>
  subst e1;exact q (o.setOo f (s:= .oo w) rfl rfl h1 h2) h
def bD {e:Expr} {pos pos':Pos} {F:TV} (hN:X.N.Nodup) (he:VE X e F) (hi:X.N[i]? =some x:=by rfl) (hx:Loc X.env.scope x:=by first|exact Bu rfl|exact Bz rfl) (hs:swapsWith e (some (.Name x pos')) pos.line X.env=pure false:=by rfl) (hf:X.fn x=true∨X.env.scope.names.lookup x=some .local:=by first|exact .inl rfl|exact .inr rfl|assumption):
  VS X (.Assign [.Name x pos'] e pos) (aUf i F):=
 let⟨_,p,f⟩:=he;⟨_,gW hN hi hx p hs hf,λo h j=>f o.ee h λs v H1 h1 w r=>aPl o w r h1 j.nx⟩
def aV {e:Expr} {F:TV} (he:VE X e F):VS X (.Return (some e) pos) (aQl F):=
 let⟨_,p,f⟩:=he;⟨_,cQ p,λ{W B H0 A ρ σ H E D} o h j=>f o.ee h λs v H1 h1 w r=>by
  have fw:=o.fw.trans w;have less:∀{H:Hp} b (x:HO),¬Bx B A b->H b=some x->¬B b/\H b=some x:=λb x n h=>⟨λz=>n (.inl z),h⟩;match s,h1,r with
  | .sh u,h1,r=>exact j.rt fw (s:= .sh u) (DU.mono less u r) h1
  | .ow l,h1,⟨p,xs,e1,h2,h3,h4⟩=>
   refine j.rt fw (s:= .ow l) ?_ h1;exact RO.back (s:= .ow l) o.fw ⟨p,xs,e1,h2,h3,DUs.mono (λb x n h=>⟨λz=>n (z.elim (λz=> .inl (.inl z)) .inr),h⟩) l h4⟩
  | .oo w,h1,⟨p,S,e1,h2,h3⟩=>
   refine j.rt fw (s:= .oo w) ?_ h1;exact RO.back (s:= .oo w) o.fw ⟨p,S,e1,h2,w.mono (λb x n h=>⟨λz=>n (z.elim (λz=> .inl (.inl z)) .inr),h⟩) (λ_ _=>rfl) h3⟩
  | .no,_,r=>exact r.elim⟩
def iM {pos p':Pos} (i:Nat) (hN:X.N[i]? =some x:=by rfl) (hv:Vis X.env.scope x:=by first|exact Bu rfl|exact Bz (Bu rfl)|exact Bz (Bz rfl)) (hd:(x==("__debug__":Str))=false:=by decide)
  (hcd:(x==("__classdict__":Str))=false:=by decide):VS X (.Return (some (.Name x p')) pos) (aO3 i):=⟨_,cQ (lD hN hv hd hcd),λ{W B H0 A ρ σ H E D} o h j=>by
 unfold aO3 at h;have less:∀{H:Hp} b (x:HO),¬Bx B A b->H b=some x->¬B b/\H b=some x:=λb x n h=>⟨λz=>n (.inl z),h⟩;split at h
 ·rename_i u hs;obtain⟨v,h1,h2⟩:=o.sh i u hs;exact⟨v,h1,j.rt (s:= .sh u) o.fw (DU.mono less u h2) h⟩
 ·rename_i l hs;obtain⟨p,xs,h1,h2,h3,h4⟩:=o.ow i l hs;exact⟨_,h1,j.rt (s:= .ow l) o.fw ⟨p,xs,rfl,o.an i p ((h2 p).mpr rfl),h3,DUs.mono (λb x n h=>⟨λz=>n (z.elim .inl λe=> .inr ⟨i,(h2 b).mpr e⟩),h⟩) l h4⟩ h⟩
 ·rename_i w hs;obtain⟨p,h1,h3⟩:=o.hd i _ w hs rfl;exact⟨_,h1,j.rt (s:= .oo w) o.fw ⟨p,_,rfl,o.an i,w.mono (λb x n h=>⟨λz=>n (z.elim .inl λe=> .inr ⟨i,e⟩),h⟩) (λ_ _=>rfl) h3⟩ h⟩
 ·exact h.elim⟩
def aAf {p' apos cpos pos:Pos} {F:TV} (i:Nat) (ha:VE X a F) (hN:X.N[i]? =some x:=by rfl) (hv:Vis X.env.scope x:=by first|exact Bu rfl|exact Bz (Bu rfl)|exact Bz (Bz rfl)) (hd:(x==("__debug__":Str))=false:=by decide)
  (hcd:(x==("__classdict__":Str))=false:=by decide)
  (hbase:attributeBase (.Name x p') "append" X.env (eval (.Name x p') X.env)=eval (.Name x p') X.env:=by rfl)
  (hfew:((backTo cpos (starEach [a] X.env)).all (λx=> !x.1) && (backToKw cpos (keywordEach [] X.env)).all (λx=>x.1.isSome)
   && decide ([a].length+([]:List Keyword).length+(if([]:List Keyword).isEmpty then 0 else 1)<30))=true:=by rfl)
  (hline:(apos.endLine==cpos.line)=true:=by rfl) (hs:starEach [a] X.env=(false,eval a X.env)::starEach [] X.env:=by rfl) (hplain:(backTo cpos (starEach [] X.env)).any (·.1)=false:=by rfl)
  (hsw:swapsWith (.Call (.Attribute (.Name x p') "append" apos) [a] [] cpos) none pos.line X.env=pure false:=by rfl):
  VS X (.Expr (.Call (.Attribute (.Name x p') "append" apos) [a] [] cpos) pos) (aV4 i F):=
 let⟨_,p,f⟩:=ha;⟨_,cV (xT Ec Fx Fu lW (lD hN hv hd hcd) (aN p aZ hs) hbase hfew hline hs hplain) hsw,λ{W B H0 A ρ σ H E D} o h j=>by
  unfold aV4 at h;split at h
  ·rename_i l hi;obtain⟨q,xs,h1,h2,h3,h4⟩:=o.ow i l hi;refine⟨_,h1,.inl ⟨rfl,_,SqL.of h3⟩,f o.ee h.2 λs v H1 h5 w r=>?_⟩;obtain⟨u,h6,d⟩:=r.du o.ee.eb h5;have o1:=o.to w;obtain⟨q',ys,g1,g2,g3,g4⟩:=o1.ow i l hi;rw [h1]at g1;cases g1;refine⟨q,ys,v,rfl,rfl,g3,?_,j.nx (o1.own h1 h2 (g4.app (DUs.one d))) h6⟩;have:=g4.length;have:(10000:Nat)<=sizeLine:=by decide
   omega
  ·exact h.elim⟩
def aMx {p' apos cpos pos:Pos} {F:TV} (i:Nat) (ha:VE X a F) (hN:X.N[i]? =some x:=by rfl) (hv:Vis X.env.scope x:=by first|exact Bu rfl|exact Bz (Bu rfl)|exact Bz (Bz rfl)) (hd:(x==("__debug__":Str))=false:=by decide)
  (hcd:(x==("__classdict__":Str))=false:=by decide)
  (hbase:attributeBase (.Name x p') "extend" X.env (eval (.Name x p') X.env)=eval (.Name x p') X.env:=by rfl)
  (hfew:((backTo cpos (starEach [a] X.env)).all (λx=> !x.1) && (backToKw cpos (keywordEach [] X.env)).all (λx=>x.1.isSome)
   && decide ([a].length+([]:List Keyword).length+(if([]:List Keyword).isEmpty then 0 else 1)<30))=true:=by rfl)
  (hline:(apos.endLine==cpos.line)=true:=by rfl) (hs:starEach [a] X.env=(false,eval a X.env)::starEach [] X.env:=by rfl) (hplain:(backTo cpos (starEach [] X.env)).any (·.1)=false:=by rfl)
  (hsw:swapsWith (.Call (.Attribute (.Name x p') "extend" apos) [a] [] cpos) none pos.line X.env=pure false:=by rfl):
  VS X (.Expr (.Call (.Attribute (.Name x p') "extend" apos) [a] [] cpos) pos) (aUl i F):=
 let⟨_,p,f⟩:=ha;⟨_,cV (xT Ec PySem.F.slot_list_extend PySem.F.type_list_extend aLj (lD hN hv hd hcd) (aN p aZ hs) hbase hfew hline hs hplain) hsw,λ{W B H0 A ρ σ H E D} o h j=>by
  unfold aUl at h
  split at h
  ·rename_i l hi
   obtain⟨q,xs,h1,h2,h3,h4⟩:=o.ow i l hi
   refine⟨_,h1,.inl ⟨rfl,_,SqL.of h3⟩,f o.ee h λs v H1 h5 w r=>?_⟩
   have d:=r.db o.ee.eb
   revert h5 d
   generalize s.rd=u
   intro h5 d
   split at h5<;>try exact h5.elim
   rename_i m
   have o1:=o.to w
   obtain⟨q',ys,g1,g2,g3,g4⟩:=o1.ow i l hi
   rw [h1]at g1
   cases g1
   obtain⟨b,zs,rfl,_,b2,b3⟩:=d.ls (o.ee.to w).eb
   refine⟨q,b,ys,zs,rfl,rfl,g3,b2,?_,j.nx (o1.own h1 h2 (g4.app b3)) h5.2⟩
   have:=g4.length
   have:=b3.length
   have:(10000:Nat)<=sizeLine:=by decide
   omega
  ·exact h.elim⟩
def dR (hN:X.N.Nodup) (hi:X.N[i]? =some x:=by rfl) (hx:Loc X.env.scope x:=by first|exact Bu rfl|exact Bz rfl) (hf:X.fn x=true∨X.env.scope.names.lookup x=some .local:=by first|exact .inl rfl|exact .inr rfl|assumption):VG X (.Name x pos) (kZ i):=
 ⟨_,bL hN hi hx hf,λo d h q=>q _ _ _ (o.setSh d) h⟩
def yO:VGs X [] []:=⟨_,yM,λ{W B H0 A ρ σ H us vs k Q} o d l h q=>by
 match us,l with
 | [],_=>exact⟨d,q _ _ _ o h⟩⟩
def jW {is:List Nat} {es:List Expr} (hN:X.N.Nodup) (h2:VGs X es is) (hi:X.N[i]? =some x:=by rfl) (hx:Loc X.env.scope x:=by first|exact Bu rfl|exact Bz rfl) (hf:X.fn x=true∨X.env.scope.names.lookup x=some .local:=by first|exact .inl rfl|exact .inr rfl|assumption)
  (hs:(assignEach (.Name x pos::es) X.env).map (·.2)=assign (.Name x pos) X.env::(assignEach es X.env).map (·.2):=by rfl):VGs X (.Name x pos::es) (i::is):=
 let⟨_,p,f⟩:=h2;⟨_,mC (bL hN hi hx hf) p hs,λ{W B H0 A ρ σ H us vs k Q} o d l h q=>by
  match us,d,l with
  |u::us,⟨v,r,e,d1,d2⟩,l=>
   refine⟨v,r,e,f (o.setSh (i:=i) d1) (DUs.mono (λb x n h=>⟨λz=>n (z.elim .inl λ⟨j,e⟩=> .inr ⟨j,e.2⟩),h⟩) us d2) (Ez l) h q⟩⟩
def aD8 {es:List Expr} {c:Nat} {is:List Nat} {n:Nat} (hc:X.calm=true) (h:VGs X es is) (hl:is.length=n:=by rfl) (hn:(assignEach es X.env).length=n:=by rfl) (hst:(assignEach es X.env).findIdx? (·.1)=none:=by rfl):VG X (.Tuple es c pos) (aSu is):=
 let⟨_,p,f⟩:=h;⟨_,aDu hc p hn hst,λ{W B H0 A ρ σ H u v k Q} o d h q=>by
  match u,d,h with
  | .tp us,⟨a,xs,e,_,ha,ds⟩,⟨l,h⟩=>exact⟨a,xs,e,SqT.of ha,by rw [<-ds.length,l,hl],f o ds l h q⟩⟩
def aU1 {tg e:Expr} {F:TV} {G:TVg} (he:VE X e F) (hg:VG X tg G) (hs:swapsWithSole [tg] e pos.line X.env=pure false:=by rfl) (hw:swappedStores [tg] e X.env=pure none:=by rfl) (h1:(assignEach [tg] X.env).map (·.2)=[assign tg X.env]:=by rfl):VS X (.Assign [tg] e pos) (aZs G F):=
 let⟨_,p,f⟩:=he;let⟨_,p',f'⟩:=hg;⟨_,aH1 p p' hs hw h1,λo h j=>f o.ee h λs v H1 h1 w r=>by
  obtain⟨u,h2,d⟩:=r.du o.ee.eb h1;exact f' (o.to w) d h2 λA' ρ' σ' o' h'=>j.nx o' h'⟩
abbrev Tr (B:Addr->Prop) (H1:Hp) (B2:Addr->Prop) (H2:Hp):Prop:=∀b o,¬B b->H1 b=some o->¬B2 b/\H2 b=some o
structure WkU (W B:Addr->Prop) (H1:Hp) (J:It) (l:List U):Prop where
 stop:∀{B2 H2},Tr B H1 B2 H2->J.stop l.length H2
 go:∀{B2 H2} i,Tr B H1 B2 H2->i<l.length->J.go i H2
 yld:∀{B2 H2} (i:Nat) {x H' u},EB W B2 H2->Tr B H1 B2 H2->l[i]? =some u->J.yld i H2 x H'->Fw W H2 H'/\DU W B2 H' u x
def VTi (wi:TI) (F:TVa):Prop:=∀{W B:Addr->Prop} {ρ:EV} {σ:St} {H:Hp} {R:List U->Prop} {Q:It->Hp->Prop},EE W B H ρ σ->F ρ R->(∀l J H',R l->Fw W H H'->WkU W B H' J l->Q J H')->wi σ H Q
def VI (X:Cx) (tg iter:Expr) (F:TVa):Prop:=∃wi,PI X tg iter wi/\VTi wi F
def vLs (F:TV):TVa:=λρ R=>F ρ λs=>s.es λu=>match u with
 | .ls l=>R l
 |_=>False
def vTp (F:TV):TVa:=λρ R=>F ρ λs=>s.es λu=>match u with
 | .tp l=>R l
 |_=>False
def aR6 {W B:Addr->Prop} {H:Hp} {K:Ac} {a:Addr} {l:List U} (nb:¬B a) (ha:H a=some (.lst xs)) (ds:DUs W B H l xs):WkU W B H (Itl K a) l:=
 ⟨λt=>⟨xs,SqL.of (t a _ nb ha).2,by rw [ds.length];exact Am _⟩,λi t h=>⟨xs,xs[i]'(by rw [<-ds.length];exact h),SqL.of (t a _ nb ha).2,Ak _⟩,λi x H' u e t h y=>by
  obtain⟨rfl,y⟩:=y;obtain⟨x',h1,d⟩:=ds.get h;rw [y xs (SqL.of (t a _ nb ha).2)]at h1;cases h1;exact⟨e.refl,DU.mono t u d⟩⟩
def aVa {W B:Addr->Prop} {H:Hp} {K:Ac} {a:Addr} {l:List U} (nb:¬B a) (ha:H a=some (.tup xs)) (ds:DUs W B H l xs):WkU W B H (Itt K a) l:=
 ⟨λt=>⟨xs,SqT.of (t a _ nb ha).2,by rw [ds.length];exact Am _⟩,λi t h=>⟨xs,xs[i]'(by rw [<-ds.length];exact h),SqT.of (t a _ nb ha).2,Ak _⟩,λi x H' u e t h y=>by
  obtain⟨rfl,y⟩:=y;obtain⟨x',h1,d⟩:=ds.get h;rw [y xs (SqT.of (t a _ nb ha).2)]at h1;cases h1;exact⟨e.refl,DU.mono t u d⟩⟩
def qK (lo:Int) (n:Nat):List U:=(Bq n).map λi:Nat=> .n (lo+(i:Int))
def aFu {W B:Addr->Prop} {H:Hp} {lo:Int} {n:Nat}:WkU W B H (Itr lo n) (qK lo n):=
 ⟨λ_=>by show n<=_;simp [qK],λi _ h=>by show i<n;simpa [qK]using h,λi x H' u e _ h y=>by
  obtain⟨rfl,rfl⟩:=y;unfold qK at h;rw [Az]at h;cases q:(Bq n)[i]? with
  |none=>rw [q]at h;cases h
  |some j=>
   rw [q]at h;cases h;have hj:=(List.getElem?_eq_some_iff.mp q).2;rw [List.getElem_range]at hj;subst hj;exact⟨e.refl,rfl,rfl⟩⟩
def bT {tg e:Expr} {F:TV} (h:VE X e F):VI X tg e (vLs F):=let⟨_,p,f⟩:=h;⟨_,aIq p,λe h q=>f e h λs v H1 h1 w r=>by
 obtain⟨u,h2,d⟩:=r.du e.eb h1;match u,h2,d with
 | .ls l,h2,⟨a,xs,e1,nb,ha,ds⟩=>exact⟨a,e1,⟨xs,SqL.of ha⟩,q l _ _ h2 w (aR6 nb ha ds)⟩⟩
def aNt {tg e:Expr} {F:TV} (h:VE X e F):VI X tg e (vTp F):=let⟨_,p,f⟩:=h;⟨_,aNc p,λe h q=>f e h λs v H1 h1 w r=>by
 obtain⟨u,h2,d⟩:=r.du e.eb h1;match u,h2,d with
 | .tp l,h2,⟨a,xs,e1,nb,ha,ds⟩=>exact⟨a,e1,⟨xs,SqT.of ha⟩,q l _ _ h2 w (aVa nb ha ds)⟩⟩
def vRg (F:TVa):TVa:=λρ R=>F ρ λus=>match us with
 | [.v (.int j)]=> -(2 ^ 62)<=j/\j<2 ^ 62/\R (qK 0 j.toNat)
 |_=>False
def aZw (F:TVa):TVa:=λρ R=>F ρ λus=>match us with
 | [.v (.int i),.v (.int j)]=>(-(2 ^ 62)<=i/\i<2 ^ 62/\ -(2 ^ 62)<=j/\j<2 ^ 62)/\R (qK i (j-i).toNat)
 |_=>False
def jY {tg a:Expr} {F:TVa} {p pos:Pos} (hm:X.mg "range"=none) (hi:VB X [a] F) (hgl:Gl X "range":=by rfl) (hs1:starEach [a] X.env=[(false,eval a X.env)]:=by rfl):VI X tg (.Call (.Name "range" p) [a] [] pos) (vRg F):=
 let⟨_,p,f⟩:=hi;⟨_,aLn hgl hm p hs1,λe h q=>f e h λus vs H1 h1 w d=>by
  match us,h1,d with
  | [.v (.int i)],⟨h2,h3,h4⟩,⟨x,r,e,d1,d2⟩=>
   obtain rfl:r=[]:=d2;rw [d1.int]at e;exact⟨i,e,h2,h3,q _ _ _ h4 w aFu⟩⟩
def wN {tg a b:Expr} {F:TVa} {p pos:Pos} (hm:X.mg "range"=none) (hi:VB X [a,b] F) (hgl:Gl X "range":=by rfl) (hs1:starEach [a,b] X.env=[(false,eval a X.env),(false,eval b X.env)]:=by rfl) (hs2:starEach [b] X.env=[(false,eval b X.env)]:=by rfl):VI X tg (.Call (.Name "range" p) [a,b] [] pos) (aZw F):=
 let⟨_,p,f⟩:=hi;⟨_,aK3 hgl hm p hs1 hs2,λe h q=>f e h λus vs H1 h1 w d=>by
  match us,h1,d with
  | [.v (.int i),.v (.int j)],⟨h2,h4⟩,d=>
   obtain⟨x,_,e,d1,y,r,rfl,d2,d3⟩:=d;obtain rfl:r=[]:=d3;rw [d1.int,d2.int]at e;exact⟨i,j,e,h2,q _ _ _ h4 w aFu⟩⟩
def aCl (l:List U):List U:=l.zipIdx.map λx=> .tp [.n (x.2:Nat),x.1]
def aR1 {W B:Addr->Prop} {H:Hp} {K:Ac} {a:Addr} {l:List U} (nb:¬B a) (ha:H a=some (.lst xs)) (ds:DUs W B H l xs):WkU W B H (Ite K a) (aCl l):=
 ⟨λt=>⟨xs,SqL.of (t a _ nb ha).2,by simp [aCl,ds.length]⟩,λi t h=>⟨xs,xs[i]'(by rw [<-ds.length];simpa [aCl]using h),SqL.of (t a _ nb ha).2,Ak _⟩,λi x H' u e t h y=>by
  obtain⟨p,x',n,rfl,rfl,y⟩:=y;have hx:=y xs (SqL.of (t a _ nb ha).2);obtain⟨u',hu,d⟩:=ds.getV hx;have hu2:(aCl l)[i]? =some (.tp [.n (i:Nat),u']):=by simp [aCl,Az,List.getElem?_zipIdx,hu]
  rw [h]at hu2;cases hu2;have f:=e.new (o:= .tup [.int i,x']) n;exact⟨f,p,_,rfl,e.nw n,aJ,_,_,rfl,⟨rfl,rfl⟩,_,_,rfl,DU.mono (λb o n h=>e.keep f b o (t b o n h).1 (t b o n h).2) u' d,rfl⟩⟩
def vEn (F:TVa):TVa:=λρ R=>F ρ λus=>match us with
 | [.ls l]=>R (aCl l)
 |_=>False
def aJl {es:List Expr} {pos':Pos} {F:TVa} {p pos:Pos} (hm:X.mg "enumerate"=none) (hi:VA X [a] F) (hgl:Gl X "enumerate":=by rfl) (hs1:starEach [a] X.env=[(false,eval a X.env)]:=by rfl):VI X (.Tuple es k pos') (.Call (.Name "enumerate" p) [a] [] pos) (vEn F):=
 let⟨_,p,f⟩:=hi;⟨_,aQ9 hgl hm p hs1,λe h q=>f e h λus vs H1 h1 _ w d=>by
  match us,h1,d with
  | [.ls l],h4,d=>
   obtain⟨x,r,e,⟨a,xs,rfl,nb,ha,ds⟩,d2⟩:=d;obtain rfl:r=[]:=d2;exact⟨a,e,⟨xs,SqL.of ha⟩,q _ _ _ h4 w (aR1 nb ha ds)⟩⟩
def eV {tg iter:Expr} {F:TVa} {G:TVg} {b:TVS} (hp:PassesOwn (model X.prog X.w) X.A X.env X.xe) (hc:X.calm=true) (hi:VI X tg iter F) (hg:VG X tg G) (hb:VSs X body b)
  (hs:∀x,foldedSetIterable iter X.env x=pure x:=by intro _;rfl):VS X (.For tg iter body [] pos) (aYw G F b):=
 let⟨_,p,f⟩:=hi;let⟨_,p1,f1⟩:=hg;let⟨_,p2,f2⟩:=hb;⟨_,aPg hp hc p p1 p2 hs,λ{W B H0 A0 ρ0 σ0 H E D} o0 h j=>f o0.ee h λl J H1 h1 w wk=>by
  have o:=o0.to w;obtain⟨H0',o',rb,kp⟩:=o.reb;have st:∀{A ρ σ H},EO W B H0' A ρ σ H->Tr (Bx B A0) H1 (Bx B A) H:=λ{A ρ σ H} o2 p x n hp=>by
   have h0:=kp p x (λz=>n (.inr z)) hp;refine⟨λz=>z.elim (λz=>n (.inl z)) λ⟨i,z⟩=>?_,o2.fw.fr p x (λw=>n (.inl (o.eb.wb p w))) h0⟩;rw [o2.an i p z]at h0;cases h0
  refine⟨λi m σ H=>m=l.length-i/\i<=l.length/\∃A ρ,EO W B H0' A ρ σ H/\lY G b E (l.drop i) ρ,⟨l.length,by simp,Bb _,A0,ρ0,o',h1⟩,?_⟩;rintro i m σ H ⟨rfl,hi,A,ρ,o2,h2⟩;by_cases hlt:i<l.length
  ·have e:l.drop i=l[i]::l.drop (i+1):=Bh hlt;rw [e]at h2;refine .inr ⟨wk.go i (st o2) hlt,λσ H=>∃A ρ,EO W B H0' A ρ σ H/\lY G b E (l.drop (i+1)) ρ,λσ' H' h=>⟨l.length-(i+1),by omega,rfl,hlt,h⟩,λx H' y=>?_⟩;obtain⟨w2,d⟩:=wk.yld i o2.ee.eb (st o2) (Ak hlt) y;exact f1 (o2.to w2) d h2 λA' ρ' σ' o3 h3=>f2 o3 h3 ⟨λo4 h4=>⟨_,_,o4,h4⟩,λo4 h4=>j.nx (o4.un o.eb rb) h4,λo4 h4=>⟨_,_,o4,h4⟩,λw r h4=>j.rt ⟨λb x nw hb=>w.fr b x nw (rb.le b x nw hb),w.wo⟩ (r.un rb) h4⟩
  ·have e:i=l.length:=by omega
   subst e;rw [Ir]at h2;exact .inl ⟨wk.stop (st o2),j.nx (o2.un o.eb rb) h2⟩⟩
def vfn {w:World} {K:Ac} {mg:Str->Option Value} {base:Heap} {x qual:Str} {st:Stmt} {f:Addr} {fd:FuncData} {N ps:List Str} {G:TVS} {F:List U->(Sl->Prop)->Prop} (Fn:Fun K x qual st f fd) (S:aL N ps (aC st))
  (hb:∀(cdv:Value) (A:Around) (outer:List Env) (s:Shared) (H:Hp) (E:XK),dH k (A.deeper (envOfC qual (aC st) s.heap.objs.size f cdv))->VSs (aF8 CX0 P w K mg base N qual (aC st) f cdv A outer s H E).nox (fU st) G)
  (hF:∀us R,F us R->us.length=ps.length/\G {nx:=λ_=>R (.sh .no),rt:=R} (us.map .sh++Jr (N.length-us.length) .no)):bB P w K mg base CX0 (k+1) f fd ps (spV F):=by
 refine Fn.ok S (λvs H Q E h=>?_) (λcdv A outer s H vs Q E hr h=>?_)
 ·obtain⟨W,B,us,R,eb,d,h,_⟩:=h;rw [<-d.length];exact(hF us R h).1
 ·obtain⟨t,p,g⟩:=hb cdv A outer s H E hr;obtain⟨W,B,us,R,eb,d,h,q⟩:=h;refine⟨t,p,g (W:=W) (B:=B) (H0:=H) (A:=λ_ _=>False) ⟨eb,eb.refl,?_,λ_ _ z=>z.elim,λ_ _ z=>z.elim,λ_ _ _ z=>z.elim,λi u h=>?_,λi s w h hs=>?_,λi s h=>?_⟩ (hF us R h).2 ⟨λo h=>?_,λ_ z=>z.elim,λ_ z=>z.elim,λw r h=>q _ _ _ h w r⟩⟩
  ·simp only [start,Ag,Ab,Ep,d.length]
  ·rw [Hh]at h;split at h
   ·rename_i hl;rw [Ab]at hl;rw [Az,Ak hl]at h;cases h;obtain⟨v,h1,h2⟩:=d.get (Ak hl);refine⟨v,?_,DU.mono (λb x n h=>⟨λz=>z.elim n λ⟨_,z⟩=>z,h⟩) _ h2⟩;unfold start;rw [Dv (by rw [Ab, <-d.length];exact hl),Az,h1];rfl
   ·rw [Ee]at h;split at h<;>cases h
  ·rw [Hh]at h;split at h
   ·rw [Az]at h;cases hu:us[i]? <;>rw [hu]at h<;>cases h;cases hs
   ·rw [Ee]at h;split at h<;>cases h;cases hs
  ·rw [Hh]at h;split at h
   ·rw [Az]at h;cases hu:us[i]? <;>rw [hu]at h<;>cases h;rfl
   ·rw [Ee]at h;split at h<;>cases h;rfl
  ·exact q _ _ _ h o.fw ⟨rfl,rfl⟩
inductive ItV (F:TV) (σ:St) (H:Hp) (Q:VK):Prop
 |mk (W B ρ R:_) (q0_:EE W B H ρ σ) (q1_:F ρ R) (q2_:∀s v H',R s->Fw W H H'->RO W B H H' s v->Q v H'):ItV F σ H Q
def tV (F:TV):TE:=λσ H Q=>ItV F σ H Q
inductive aYt (F:TVc) (σ:St) (H:Hp) (Q:(Bool->Hp->Prop)):Prop
 |mk (W B ρ R:_) (q0_:EE W B H ρ σ) (q1_:F ρ R) (q2_:∀c H',R c->Fw W H H'->Q c H'):aYt F σ H Q
def tVc (F:TVc):TT:=λσ H Q=>aYt F σ H Q
def VE.can {X:Cx} {e:Expr} {F:TV} (h:VE X e F):PE X e (tV F):=let⟨_,p,f⟩:=h;λpins s σ H Q I ⟨_,_,_,_,e,h,q⟩=>p pins s σ H Q I (f e h q)
def VC.can {X:Cx} {e:Expr} {F:TVc} (h:VC X e F):PT X e (tVc F):=let⟨_,p,f⟩:=h;λpins s σ H Q I ⟨_,_,_,_,e,h,q⟩=>p pins s σ H Q I (f e h q)
def VTh (own:Nat) (g:TG) (G:TVg):Prop:=∀{W B:Addr->Prop} {H:Hp} {ρ:EV} {σ:St} {u:U} {v:V} {k:EV->Prop} {Q:St->Hp->Prop},EE W B H ρ σ->DU W B H u v->G u ρ k->(∀ρ' σ',EE W B H ρ' σ'->σ'.length=σ.length->(∀i,own<=i->σ'[i]? =σ[i]?)->k ρ'->Q σ' H)->g v σ H Q
def EE.set {W B:Addr->Prop} {H:Hp} {ρ:EV} {σ:St} {u:U} (e:EE W B H ρ σ) (d:DU W B H u v):EE W B H (ρ.set i (.sh u)) (σ.set i (some v)):=by
 refine⟨e.eb,by rw [Cm,Cm,e.len],λj u' h=>?_,λj s w h hs=>?_⟩
 ·rcases cU h with ⟨rfl,q,hl⟩|⟨ne,h⟩
  ·cases q;exact⟨v,get_set (e.len▸hl),d⟩
  ·obtain⟨v',h1,h2⟩:=e.sh j u' h;exact⟨v',by rw [fQ ne];exact h1,h2⟩
 ·rcases cU h with ⟨rfl,rfl,hl⟩|⟨ne,h⟩
  ·cases hs
  ·obtain⟨p,S,h1,h2⟩:=e.hd j s w h hs;exact⟨p,S,by rw [fQ ne];exact h1,h2⟩
def cT {own i:Nat} (h:i<own):VTh own (vQ i) (kZ i):=λe d h1 q=>q _ _ (e.set d) (Cm ..) (λj hj=>fQ (by omega)) h1
def aIh:List Nat->TGs
 | []=>aW5
 |i::is=>aT4 (vQ i) (aIh is)
theorem aFl {own:Nat} {W B:Addr->Prop} {H:Hp} {Q:St->Hp->Prop} {k:EV->Prop}:∀{is:List Nat} {us:List U} {vs:List V} {ρ:EV} {σ:St},(∀i∈is,i<own)->EE W B H ρ σ->DUs W B H us vs->us.length=is.length->k ((is.zip us).foldl (λρ x=>ρ.set x.1 (.sh x.2)) ρ)->
  (∀ρ' σ',EE W B H ρ' σ'->σ'.length=σ.length->(∀i,own<=i->σ'[i]? =σ[i]?)->k ρ'->Q σ' H)->aIh is vs σ H Q
 | [],[],_,_,_,_,e,d,_,h,q=>⟨d,q _ _ e rfl (λ_ _=>rfl) h⟩
 |i::is,u::us,_,ρ,σ,hi,e,⟨v,r,e1,d1,d2⟩,l,h,q=>⟨v,r,e1,aFl (λj hj=>hi j (Ad _ hj)) (e.set (i:=i) d1) d2 (Ez l) h λρ' σ' e' l' a' h'=>q ρ' σ' e' (l'.trans (Cm ..)) (λj hj=>(a' j hj).trans (fQ (by have:=hi i Ae;omega))) h'⟩
def aHp {own:Nat} {K:Ac} {is:List Nat} {n:Nat} (hl:is.length=n) (h:∀i∈is,i<own):VTh own (aXv K n (aIh is)) (aSu is):=λ{W B H ρ σ u v k Q} e d h1 q=>by
 match u,d,h1 with
 | .tp us,⟨a,xs,e1,_,ha,ds⟩,⟨l,h1⟩=>exact⟨a,xs,e1,SqT.of ha,by rw [<-ds.length,l,hl],aFl h e ds l h1 q⟩
def aVu:Sl->Sl
 | .ow l=> .br l
 | .oo w=> .bo w
 |s=>s
def aLb:∀s:Sl,(aVu s).hold=s.hold
 | .no=>rfl
 | .sh _=>rfl
 | .ow _=>rfl
 | .br _=>rfl
 | .oo _=>rfl
 | .bo _=>rfl
def sZ (no:Nat) (cap:List (Str×Nat)) (ρ:EV):EV:=Jr no .no++cap.map λp=>match (ρ[p.2]? :Option Sl)with
 |some s=>aVu s
 |_=> .no
def aEa {no:Nat} {cap:List (Str×Nat)} {ρ:EV} {s:Sl} (h:(sZ no cap ρ)[i]? =some s) (hs:s≠ .no):∃(j:Nat) (s0:Sl),no<=i/\(∀σ:St,(kJ no cap σ)[i]? =some ((σ[j]? :Option (Option V))).join)/\ρ[j]? =some s0/\s=aVu s0:=by
 unfold sZ at h;rw [Hh]at h;split at h
 ·rw [Ee]at h;split at h
  ·cases h;exact(hs rfl).elim
  ·cases h
 ·rename_i hn;rw [Ep]at hn h;rw [Az]at h;cases hc:cap[i-no]? with
  |none=>rw [hc]at h;cases h
  |some p=>
   rw [hc]at h;have h':=Bl h;dsimp only at h';split at h'
   ·rename_i s0 h0;refine⟨p.2,s0,by omega,λσ=>?_,h0,h'.symm⟩;unfold kJ;rw [Cu (by rw [Ep];omega),Ep,Az,hc];rfl
   ·exact(hs h'.symm).elim
def EE.cap {W B:Addr->Prop} {H:Hp} {ρ:EV} {σ:St} {no:Nat} {cap:List (Str×Nat)} (e:EE W B H ρ σ):EE W B H (sZ no cap ρ) (kJ no cap σ):=by
 refine⟨e.eb,by simp [sZ,kJ],λi u h=>?_,λi s w h hs=>?_⟩
 ·obtain⟨j,s0,_,c,h,e0⟩:=aEa h (by intro z;cases z);have:s0= .sh u:=by cases s0<;>cases e0<;>rfl
  obtain⟨v,h1,h2⟩:=e.sh j u (this▸h);exact⟨v,by rw [c,h1];rfl,h2⟩
 ·obtain⟨j,s0,_,c,h0,rfl⟩:=aEa h (by rintro rfl;cases hs);rw [aLb]at hs;obtain⟨p,S,h1,h2⟩:=e.hd j s0 w h0 hs;exact⟨p,S,by rw [c,h1];rfl,h2⟩
def gD (f:U->(Option U->Prop)->Prop):List U->List U->(List U->Prop)->Prop
 | [],acc,R=>R acc
 |u::r,acc,R=>f u λo=>match o with
  |some x=>gD f r (acc++[x]) R
  |none=>gD f r acc R
def aX2 (G:TVg) (F:TV) (ρ:EV):U->(Option U->Prop)->Prop:=λu k=>G u ρ λρ1=>F ρ1 λs=>s.es λx=>k (some x)
def aWl (G:TVg) (C:TVc) (F:TV) (ρ:EV):U->(Option U->Prop)->Prop:=λu k=>G u ρ λρ1=>C ρ1 λc=>(c=true->F ρ1 λs=>s.es λx=>k (some x))/\(c=false->k none)
structure CI (W B:Addr->Prop) (H1:Hp) (D:Addr) (ρ:EV) (us:List U) (acc:List V) (σ:St) (H:Hp):Prop where
 ee:EE W (λb=>B b∨b=D) H ρ σ
 od:∀(i:Nat) (s:Sl) (w:Own),ρ[i]? =some s->s.hold=some w->∃p S,σ[i]? =some (some (V.ref p))/\(∀b,S b->¬W b)/\¬S D/\w.φ W (λb=>B b∨b=D) S H p
 fw:Fw W H1 H
 dl:H D=some (.lst acc)
 du:DUs W (λb=>B b∨b=D) H us acc
def EE.plus {W B:Addr->Prop} {H:Hp} {ρ:EV} {σ:St} {D:Addr} {x:HO} (e:EE W B H ρ σ) (n:H D=none) (m:Mt x:=by trivial):EE W (λb=>B b∨b=D) (upd H D x) ρ σ:=by
 have f:=e.eb.new (o:=x) n;have k:∀b o,¬B b->H b=some o->¬(B b∨b=D)/\upd H D x b=some o:=λb o nb h=>⟨λz=>z.elim nb (aQ h n),(e.eb.keep f b o nb h).2⟩;refine⟨⟨λp hp=>?_,λp hp=> .inl (e.eb.wb p hp),f.wo⟩,e.len,λi u h=>?_,λi s w h hs=>?_⟩
 ·rcases hp with hp|hp
  ·exact(e.eb.to f).bl p hp
  ·rw [hp,aJ];exact⟨_,rfl,m⟩
 ·obtain⟨v,h1,h2⟩:=e.sh i u h;exact⟨v,h1,DU.mono k u h2⟩
 ·obtain⟨p,S,h1,h2,h3⟩:=e.hd i s w h hs;exact⟨p,S,h1,h2,w.mono k (λb hb=>let⟨y,hx,_⟩:=w.th h3 b hb;aM (aQ hx n)) h3⟩
def EE.as {W B:Addr->Prop} {H:Hp} {ρ:EV} {σ σ':St} (e:EE W B H ρ σ) (ρo:∀(i:Nat) (s:Sl),ρ[i]? =some s->s≠Sl.no->σ'[i]? =σ[i]?) (l:σ'.length=σ.length):EE W B H ρ σ':=
 ⟨e.eb,e.len.trans l.symm,λi u h=>by rw [ρo i _ h (by intro z;cases z)];exact e.sh i u h,λi s w h hs=>by
  rw [ρo i s h (by rintro rfl;cases hs)];exact e.hd i s w h hs⟩
def CI.to {W B:Addr->Prop} {H1 H H2:Hp} {D:Addr} {ρ:EV} {us:List U} {σ σ':St} (c:CI W B H1 D ρ us acc σ H) (nw:¬W D) (f:Fw W H H2) (ρo:∀(i:Nat) (s:Sl),ρ[i]? =some s->s≠Sl.no->σ'[i]? =σ[i]?) (l:σ'.length=σ.length):CI W B H1 D ρ us acc σ' H2:=
 ⟨(c.ee.to f).as ρo l,λi m w h hs=>by
  rw [ρo i m h (by rintro rfl;cases hs)];obtain⟨p,S,h1,h2,h3,h4⟩:=c.od i m w h hs;exact⟨p,S,h1,h2,h3,w.to c.ee.eb f h2 h4⟩,c.fw.trans f,f.fr _ _ nw c.dl,DUs.mono (c.ee.eb.keep f) us c.du⟩
def CI.put {W B:Addr->Prop} {H1 H:Hp} {D:Addr} {ρ:EV} {us:List U} {σ:St} {u:U} (c:CI W B H1 D ρ us acc σ H) (n1:H1 D=none) (nw:¬W D) (d:DU W (λb=>B b∨b=D) H u v):CI W B H1 D ρ (us++[u]) (acc++[v]) σ (upd H D (.lst (acc++[v]))):=by
 have k:∀b o,¬(B b∨b=D)->H b=some o->¬(B b∨b=D)/\upd H D (.lst (acc++[v])) b=some o:=λb o nb h=>⟨nb,(aM (λz=>nb (.inr z))).trans h⟩;have ww:∀p,W p->Wll (upd H D (.lst (acc++[v]))) p:=λp hp=>by
  obtain⟨x,y,z,h⟩:=c.fw.wo p hp;exact⟨x,y,z,(aM (λq:p=D=>nw (by rw [<-q];exact hp))).trans h⟩
 have od:∀(i:Nat) (s:Sl) (w:Own),ρ[i]? =some s->s.hold=some w->∃p S,σ[i]? =some (some (V.ref p))/\(∀b,S b->¬W b)/\¬S D/\w.φ W (λb=>B b∨b=D) S (upd H D (.lst (acc++[v]))) p:=λi s w h hs=>by
  obtain⟨p,S,h1,h2,h3,h4⟩:=c.od i s w h hs;exact⟨p,S,h1,h2,h3,w.mono k (λb hb=>aM (λq:b=D=>h3 (by rw [<-q];exact hb))) h4⟩
 refine⟨⟨⟨λp hp=>?_,c.ee.eb.wb,ww⟩,c.ee.len,λi u' h=>?_,λi m w h hs=>let⟨p,S,h1,h2,_,h4⟩:=od i m w h hs;⟨p,S,h1,h2,h4⟩⟩,od,⟨λb o w h=>?_,ww⟩,aJ,DUs.mono k _ (c.du.app (DUs.one d))⟩
 ·by_cases z:p=D
  ·rw [z,aJ];exact⟨_,rfl,trivial⟩
  ·rw [aM z];exact c.ee.eb.bl p hp
 ·obtain⟨v',h1,h2⟩:=c.ee.sh i u' h;exact⟨v',h1,DU.mono k u' h2⟩
 ·rw [aM (aQ h n1)];exact c.fw.fr b o w h
def aMa {no:Nat} {cap:List (Str×Nat)} {ρ:EV} {σ σ':St} (a:∀i,no<=i->σ'[i]? =σ[i]?):∀(i:Nat) (s:Sl),(sZ no cap ρ)[i]? =some s->s≠Sl.no->σ'[i]? =σ[i]? :=λi s h n=>let⟨_,_,q,_⟩:=aEa h n;a i q
structure WkC (W B:Addr->Prop) (H1:Hp) (J:It) (l:List U):Prop where
 stop:∀{B2 H2},Tr B H1 B2 H2->Fw W H1 H2->J.stop l.length H2
 go:∀{B2 H2} i,Tr B H1 B2 H2->Fw W H1 H2->i<l.length->J.go i H2
 yld:∀{B2 H2} (i:Nat) {x H' u},EB W B2 H2->Tr B H1 B2 H2->Fw W H1 H2->l[i]? =some u->J.yld i H2 x H'->Fw W H2 H'/\DU W B2 H' u x
def aVv (wi:TI) (F:TVa):Prop:=∀{W B:Addr->Prop} {ρ:EV} {σ:St} {H:Hp} {R:List U->Prop} {Q:It->Hp->Prop},EE W B H ρ σ->F ρ R->(∀l J H',R l->Fw W H H'->WkC W B H' J l->Q J H')->wi σ H Q
def VIc (X:Cx) (tg iter:Expr) (F:TVa):Prop:=∃wi,PI X tg iter wi/\aVv wi F
def vic {X:Cx} {tg iter:Expr} {F:TVa} (h:VI X tg iter F):VIc X tg iter F:=let⟨wi,p,f⟩:=h;⟨wi,p,λe h q=>f e h λl J H' h1 w k=>q l J H' h1 w ⟨λt _=>k.stop t,λi t _ hi=>k.go i t hi,λi _ _ _ e t _ h y=>k.yld i e t h y⟩⟩
def aYo (F:TV):TVa:=λρ R=>F ρ λs=>match s.rd with
 | .ls l=>R l
 |_=>False
def aZr {X:Cx} {tg e:Expr} {F:TV} (h:VE X e F):VIc X tg e (aYo F):=let⟨_,p,f⟩:=h;⟨_,aIq p,λ{W B ρ σ H R Q} e h q=>f e h λs v H1 h1 w r=>by
 have d:=r.db e.eb;revert h1 d;generalize s.rd=u;intro h1 d;split at h1
 ·obtain⟨a,xs,rfl,nw,ha,ds⟩:=d.ls (e.to w).eb;refine⟨a,rfl,⟨xs,SqL.of ha⟩,q _ _ _ h1 w ⟨λ_ f=>⟨xs,SqL.of (f.fr _ _ nw ha),by rw [ds.length];exact Am _⟩,λi _ f h=>⟨xs,xs[i]'(by rw [<-ds.length];exact h),SqL.of (f.fr _ _ nw ha),Ak _⟩,λi x H' u e t f h y=>?_⟩⟩;obtain⟨rfl,y⟩:=y;obtain⟨x',g1,g2⟩:=ds.get h;rw [y xs (SqL.of (f.fr _ _ nw ha))]at g1;cases g1;exact⟨e.refl,DU.mono t u g2⟩
 ·exact h1.elim⟩
def aFh (no:Nat) (cap:List (Str×Nat)) (Fi:TVa) (G:TVg) (F:TV):TV:=λρ R=>Fi ρ λl=>l.length<=10000/\gD (aX2 G F (sZ no cap ρ)) l [] λus=>R (.ow us)
def aH4 (no:Nat) (cap:List (Str×Nat)) (Fi:TVa) (G:TVg) (C:TVc) (F:TV):TV:=λρ R=>Fi ρ λl=>l.length<=10000/\gD (aWl G C F (sZ no cap ρ)) l [] λus=>R (.ow us)
def CW (W B:Addr->Prop) (H1:Hp) (D:Addr) (ρ:EV) (l:List U) (f:U->(Option U->Prop)->Prop) (R:List U->Prop) (i m:Nat) (σ:St) (H:Hp):Prop:=m=l.length-i/\i<=l.length/\∃us acc,CI W B H1 D ρ us acc σ H/\us.length<=i/\gD f (l.drop i) us R
def CW.beg {W B:Addr->Prop} {H1:Hp} {D:Addr} {ρ:EV} {σ:St} {no:Nat} {cap:List (Str×Nat)} {l:List U} {f:U->(Option U->Prop)->Prop} {R:List U->Prop} (e:EE W B H1 ρ σ) (n1:H1 D=none) (h:gD f l [] R):CW W B H1 D (sZ no cap ρ) l f R 0 l.length (kJ no cap σ) (upd H1 D (.lst [])):=by
 refine⟨by simp,Bb _,[],[],⟨e.cap.plus n1,λi m w h hs=>?_,e.eb.new n1,aJ,rfl⟩,Am _,h⟩;obtain⟨p,S,h1,h2,h3⟩:=e.cap.hd i m w h hs;have f:=e.eb.new (o:= .lst []) n1;refine⟨p,S,h1,h2,λz=>?_,w.mono (λb o nb h=>⟨λz=>z.elim nb (aQ h n1),(e.eb.keep f b o nb h).2⟩) (λb hb=>let⟨x,hx,_⟩:=w.th h3 b hb;aM (aQ hx n1)) h3⟩;obtain⟨x,hx,_⟩:=w.th h3 D z;rw [n1]at hx;cases hx
def CW.turn {W B:Addr->Prop} {H1 H H3:Hp} {D:Addr} {ρ:EV} {σ σ0:St} {no:Nat} {cap:List (Str×Nat)} {l:List U} {f:U->(Option U->Prop)->Prop} {R:List U->Prop} {i m:Nat} {J:It} {x:V} (e:EE W B H1 ρ σ0) (n1:H1 D=none) (ll:l.length<=10000) (wk:WkC W B H1 J l) (hlt:i<l.length) (c:CW W B H1 D (sZ no cap ρ) l f R i m σ H) (y:J.yld i H x H3):
  ∃u us,EE W (λb=>B b∨b=D) H3 (sZ no cap ρ) σ/\DU W (λb=>B b∨b=D) H3 u x/\f u (λo=>match o with|some y=>gD f (l.drop (i+1)) (us++[y]) R|none=>gD f (l.drop (i+1)) us R)/\
   (∀(y:U) (v:V) (σ':St) (H':Hp),gD f (l.drop (i+1)) (us++[y]) R->Fw W H3 H'->DU W (λb=>B b∨b=D) H' y v->σ'.length=σ.length->(∀i,no<=i->σ'[i]? =σ[i]?)->∃ys,H' D=some (.lst ys)/\ys.length<sizeLine/\∃m',m'<m/\CW W B H1 D (sZ no cap ρ) l f R (i+1) m' σ' (upd H' D (.lst (ys++[v]))))/\
   (∀(σ':St) (H':Hp),gD f (l.drop (i+1)) us R->Fw W H3 H'->σ'.length=σ.length->(∀i,no<=i->σ'[i]? =σ[i]?)->∃m',m'<m/\CW W B H1 D (sZ no cap ρ) l f R (i+1) m' σ' H'):=by
 have nw:¬W D:=λw=>e.eb.dm D (e.eb.wb D w) n1;obtain⟨rfl,hi,us,acc,c,hl,h2⟩:=c;rw [Bh hlt]at h2;have tr:Tr B H1 (λb=>B b∨b=D) H:=λb o nb h=>⟨λz=>z.elim nb (aQ h n1),(e.eb.keep c.fw b o nb h).2⟩;obtain⟨w3,d⟩:=wk.yld i c.ee.eb tr c.fw (Ak hlt) y;have c3:=c.to (σ':=σ) nw w3 (λ_ _ _ _=>rfl) rfl;have hz:(10000:Nat)<sizeLine:=by decide
 refine⟨l[i],us,c3.ee,d,h2,λy v σ' H' h3 f3 d3 l3 a3=>?_,λσ' H' h3 f3 l3 a3=>⟨l.length-(i+1),by omega,rfl,hlt,us,acc,c3.to nw f3 (aMa a3) l3,by omega,h3⟩⟩;have c4:=c3.to nw f3 (aMa a3) l3;have hz2:=c4.du.length;refine⟨acc,c4.dl,by omega,l.length-(i+1),by omega,rfl,hlt,us++[y],acc++[v],c4.put n1 nw d3,?_,h3⟩;rw [Ag];show us.length+1<=i+1;omega
def CW.end_ {W B:Addr->Prop} {H0 H1 H:Hp} {D:Addr} {ρ:EV} {σ:St} {l:List U} {f:U->(Option U->Prop)->Prop} {R:Sl->Prop} (w:Fw W H0 H1) (n1:H1 D=none) (c:CW W B H1 D ρ l f (λus=>R (.ow us)) l.length m σ H) (q:∀s v H',R s->Fw W H0 H'->RO W B H0 H' s v->Q v H'):Q (.ref D) H:=by
 obtain⟨_,_,us,acc,c,_,h2⟩:=c;rw [Ir]at h2;exact q _ _ _ h2 (w.trans c.fw) (RO.back (s:= .ow us) w ⟨D,acc,rfl,n1,c.dl,c.du⟩)
def aDl {no:Nat} {cap:List (Str×Nat)} {Fi:TVa} {G:TVg} {F:TV} (hi:aVv wi Fi) (hg:VTh no g G):VT (aBv no cap wi g (tV F)) (aFh no cap Fi G F):=λ{W B ρ σ H R Q} e h q=>hi e h λl J H1 h1 w wk D n1=>by
 have e1:=e.to w;refine⟨CW W B H1 D (sZ no cap ρ) l _ _,⟨_,CW.beg e1 n1 h1.2⟩,λi m σ2 H2 c=>?_⟩;have tr:Tr B H1 (λb=>B b∨b=D) H2:=let⟨_,_,_,_,c,_⟩:=c;λb o nb h=>⟨λz=>z.elim nb (aQ h n1),(e1.eb.keep c.fw b o nb h).2⟩;have fw:Fw W H1 H2:=let⟨_,_,_,_,c,_⟩:=c;c.fw;by_cases hlt:i<l.length
 ·refine .inr ⟨wk.go i tr fw hlt,λx H3 y=>?_⟩;obtain⟨u,us,e3,d3,h3,put,_⟩:=c.turn e1 n1 h1.1 wk hlt y;refine hg e3 d3 h3 λρ' σ' e' l' a' h'=>⟨W,_,ρ',_,e',h',λs v H5 h5 w5 r5=>?_⟩;obtain⟨y,hy,dy⟩:=r5.du e'.eb h5;exact put y v σ' H5 hy w5 dy l' a'
 ·have hi':=c.2.1;obtain rfl:i=l.length:=by omega
  exact .inl ⟨wk.stop tr fw,c.end_ w n1 q⟩
def aL7 {no:Nat} {cap:List (Str×Nat)} {Fi:TVa} {G:TVg} {C:TVc} {F:TV} (hi:aVv wi Fi) (hg:VTh no g G):VT (aG3 no cap wi g (tVc C) (tV F)) (aH4 no cap Fi G C F):=λ{W B ρ σ H R Q} e h q=>hi e h λl J H1 h1 w wk D n1=>by
 have e1:=e.to w;refine⟨CW W B H1 D (sZ no cap ρ) l _ _,⟨_,CW.beg e1 n1 h1.2⟩,λi m σ2 H2 c=>?_⟩;have tr:Tr B H1 (λb=>B b∨b=D) H2:=let⟨_,_,_,_,c,_⟩:=c;λb o nb h=>⟨λz=>z.elim nb (aQ h n1),(e1.eb.keep c.fw b o nb h).2⟩;have fw:Fw W H1 H2:=let⟨_,_,_,_,c,_⟩:=c;c.fw;by_cases hlt:i<l.length
 ·refine .inr ⟨wk.go i tr fw hlt,λx H3 y=>?_⟩;obtain⟨u,us,e3,d3,h3,put,skip⟩:=c.turn e1 n1 h1.1 wk hlt y;refine hg e3 d3 h3 λρ' σ' e' l' a' h'=>⟨W,_,ρ',_,e',h',λc H4 h4 w4=>?_⟩;cases c with
  |true=>
   refine aGn ⟨W,_,ρ',_,e'.to w4,h4.1 rfl,λs v H5 h5 w5 r5=>?_⟩;obtain⟨y,hy,dy⟩:=r5.du (e'.to w4).eb h5;exact put y v σ' H5 hy (w4.trans w5) dy l' a'
  |false=>exact qP (skip σ' H4 (h4.2 rfl) w4 l' a')
 ·have hi':=c.2.1;obtain rfl:i=l.length:=by omega
  exact .inl ⟨wk.stop tr fw,c.end_ w n1 q⟩
def mL {elt iter tg:Expr} {own:List Str} {cap:List (Str×Nat)} {Fi:TVa} {G:TVg} {F:TV} (sc0:Scope) (N0:List Str) (hsc:X.env.scope=sc0) (hN:X.N=N0) (hcell:∀x,X.env.scope.names.lookup x=some .cell->∃c,X.env.cells.lookup x=some c)
  (ok:uL scope sc0 cap N0) (hc:X.calm=true) (hi:VIc X tg iter Fi) (hg:∀cl C s2 H2 fp,PG (bR X (eE own cap) scope cl C s2 H2 fp) tg g) (hG:VTh own.length g G) (he:∀cl C s2 H2 fp,VE (bR X (eE own cap) scope cl C s2 H2 fp) elt F)
  (hs:∀x,foldedSetIterable iter X.env x=pure x:=by intro _;rfl):VE X (.ListComp elt [⟨tg,iter,[],0⟩] scope pos) (aFh own.length cap Fi G F):=
 let⟨_,p,f⟩:=hi;⟨_,aSj sc0 N0 hsc hN hcell ok hc p hg (λcl C s2 H2 fp=>(he cl C s2 H2 fp).can) hs,aDl f hG⟩
def aHv {elt iter tg ci:Expr} {own:List Str} {cap:List (Str×Nat)} {Fi:TVa} {G:TVg} {C:TVc} {F:TV} (sc0:Scope) (N0:List Str) (hsc:X.env.scope=sc0) (hN:X.N=N0) (hcell:∀x,X.env.scope.names.lookup x=some .cell->∃c,X.env.cells.lookup x=some c)
  (ok:uL scope sc0 cap N0) (hc:X.calm=true) (hi:VIc X tg iter Fi) (hg:∀cl C s2 H2 fp,PG (bR X (eE own cap) scope cl C s2 H2 fp) tg g) (hG:VTh own.length g G) (hC:∀cl C' s2 H2 fp,VC (bR X (eE own cap) scope cl C' s2 H2 fp) ci C) (he:∀cl C s2 H2 fp,VE (bR X (eE own cap) scope cl C s2 H2 fp) elt F)
  (hs:∀x,foldedSetIterable iter X.env x=pure x:=by intro _;rfl):VE X (.ListComp elt [⟨tg,iter,[ci],0⟩] scope pos) (aH4 own.length cap Fi G C F):=
 let⟨_,p,f⟩:=hi;⟨_,aVc sc0 N0 hsc hN hcell ok hc p hg (λcl C s2 H2 fp=>(hC cl C s2 H2 fp).can) (λcl C s2 H2 fp=>(he cl C s2 H2 fp).can) hs,aL7 f hG⟩
def aJn {elt iter tg:Expr} {own:List Str} {cap:List (Str×Nat)} {pos spos py:Pos} {Fi:TVa} {G:TVg} {F:TV} (hnd:X.N.Nodup) (sc0:Scope) (N0:List Str) (hsc:X.env.scope=sc0) (hN:X.N=N0) (hcell:∀x,X.env.scope.names.lookup x=some .cell->∃c,X.env.cells.lookup x=some c)
  (ok:uL scope sc0 cap N0) (hc:X.calm=true) (hi:VIc X tg iter Fi) (hg:∀cl C s2 H2 fp,PG (bR X (eE own cap) scope cl C s2 H2 fp) tg g) (hG:VTh own.length g G) (he:∀cl C s2 H2 fp,VE (bR X (eE own cap) scope cl C s2 H2 fp) elt F)
  (hi':X.N[i]? =some x:=by rfl) (hx:Loc X.env.scope x:=by exact Bu rfl) (hsw:swapsWith (.ListComp elt [⟨tg,iter,[],0⟩] scope pos) (some (.Name x py)) spos.line X.env=pure true:=by rfl)
  (hs:∀x,foldedSetIterable iter X.env x=pure x:=by intro _;rfl) (hf:X.fn x=true∨X.env.scope.names.lookup x=some .local:=by first|exact .inl rfl|exact .inr rfl|assumption):VS X (.Assign [.Name x py] (.ListComp elt [⟨tg,iter,[],0⟩] scope pos) spos) (aUf i (aFh own.length cap Fi G F)):=
 let⟨_,p,f⟩:=hi;⟨_,aZc hnd hi' hx sc0 N0 hsc hN hcell ok hc p hg (λcl C s2 H2 fp=>(he cl C s2 H2 fp).can) hsw hs hf,λo h j=>aDl f hG o.ee h λs v H1 h1 w r=>aPl o w r h1 j.nx⟩
def aWo {elt iter tg:Expr} {own:List Str} {Fi:TVa} {G:TVg} {F:TV} (ok:yL scope) (hc:X.calm=true) (hi:VIc X tg iter Fi)
  (hg:∀cl C s2 H2 fp,PG (bR X (eE own []) scope cl C s2 H2 fp) tg g) (hG:VTh own.length g G) (he:∀cl C s2 H2 fp,VE (bR X (eE own []) scope cl C s2 H2 fp) elt F)
  (hs:∀x,foldedSetIterable iter X.env x=pure x:=by intro _;rfl):VE X (.ListComp elt [⟨tg,iter,[],0⟩] scope pos) (aFh own.length [] Fi G F):=
 let⟨_,p,f⟩:=hi;⟨_,aPu ok hc p hg (λcl C s2 H2 fp=>(he cl C s2 H2 fp).can) hs,aDl f hG⟩
def aEf {op} {F:TV} (h:VE X a F):VE X (.BoolOp op [a] pos) F:=let⟨_,p,f⟩:=h;⟨_,aOh p,f⟩
def aP8 (g:List U->(Sl->Prop)->Prop) (G:TVa):TV:=λρ R=>G ρ λus=>g us R
def bJ {id:String} {g:List U->(Sl->Prop)->Prop} {es:List Expr} {G:TVa} {p pos:Pos} (hc:eF X (.builtin id) r) (cb:CB r g) (hm:X.mg x=none) (hv:bootBuiltins x=some (.builtin id)) (ha:VB X (a::es) G) (hg:Gl X x:=by rfl) (hn:x≠"__name__":=by decide) (hdb:(x==("__debug__":Str))=false:=by decide)
  (he:starEach (a::es) X.env=(false,eval a X.env)::starEach es X.env:=by rfl) (hpl:(backTo pos (starEach es X.env)).any (·.1)=false:=by rfl):VE X (.Call (.Name x p) (a::es) [] pos) (aP8 g G):=
 let⟨_,p,f⟩:=ha;⟨_,gR hc hg hm hv p hn hdb he hpl,λe h q=>f e h λus vs H1 h1 w d=>cb (e.to w).eb d h1 λs z H2 h2 w2 r=>q _ _ _ h2 (w.trans w2) (r.back w)⟩
def dU {T:String} {g:List U->(Sl->Prop)->Prop} {es:List Expr} {G:TVa} {p pos:Pos} (hc:eF X (.type T) r) (cb:CB r g) (hm:X.mg x=none) (hv:bootBuiltins x=some (.type T)) (ha:VB X (a::es) G) (hg:Gl X x:=by rfl) (hn:x≠"__name__":=by decide) (hdb:(x==("__debug__":Str))=false:=by decide)
  (he:starEach (a::es) X.env=(false,eval a X.env)::starEach es X.env:=by rfl) (hpl:(backTo pos (starEach es X.env)).any (·.1)=false:=by rfl):VE X (.Call (.Name x p) (a::es) [] pos) (aP8 g G):=
 let⟨_,p,f⟩:=ha;⟨_,lX hc hg hm hv p hn hdb he hpl,λe h q=>f e h λus vs H1 h1 w d=>cb (e.to w).eb d h1 λs z H2 h2 w2 r=>q _ _ _ h2 (w.trans w2) (r.back w)⟩
def gIx:U->U->(Sl->Prop)->Prop
 | .ls l,.v (.int i),R=>∃u,atI l i=some u/\R (.sh u)
 | .tp l,.v (.int i),R=>∃u,atI l i=some u/\R (.sh u)
 |_,_,_=>False
def bV {K:Ac}:O2 (rIx K) gIx:=λ{W B H u v x y R Q} e d1 d2 h q=>by
 unfold gIx at h;split at h
 ·exact .inl (aWb e d1 d2 h q)
 ·exact .inr (.inl (aVq e d1 d2 h q))
 ·exact h.elim
def aUp:U->U->(Sl->Prop)->Prop
 | .v (.int i),.v (.int j),R=>R (.sh (.n (i+j)))
 | .v (.str a),.v (.str b),R=>a.length+b.length<=10000/\R (.sh (.s (a++b)))
 | .ls l,.ls m,R=>l.length+m.length<=10000/\R (.ow (l++m))
 | .tp l,.tp m,R=>l.length+m.length<=10000/\R (.sh (.tp (l++m)))
 |_,_,_=>False
def sz4 {n:Nat} (h:n<=10000):n<=sizeLine:=Cp h (by decide)
def aTx (X:Cx):R2:=λx y H Q=>(∃i j,x= .int i/\y= .int j/\Q (.int (i+j)) H)∨(∃i j,x= .str i/\y= .str j/\i.length+j.length<=sizeLine/\Q (.str (i++j)) H)∨aYj x y H Q∨aTi X.K x y H Q∨∃a b ys,x= .ref a/\y= .ref b/\SqT X.K H a []/\SqT X.K H b ys/\Q (.ref b) H
def bA:OpR X (binaryOp .Add) (aTx X):=uM.or (zW.or (aVb.or (aRs.or aOy)))
def bM:O2 (aTx X) aUp:=λ{W B H u v x y R Q} e d1 d2 h q=>by
 unfold aUp at h;split at h
 ·exact .inl ⟨_,_,d1.int,d2.int,q _ _ _ h e.refl ⟨rfl,rfl⟩⟩
 ·exact .inr (.inl ⟨_,_,d1.fl.1,d2.fl.1,sz4 h.1,q _ _ _ h.2 e.refl ⟨rfl,rfl⟩⟩)
 ·obtain⟨p,xs,rfl,_,h1,ds⟩:=d1.ls e;obtain⟨p',ys,rfl,_,h2,ds'⟩:=d2.ls e;have:=ds.length;have:=ds'.length;refine .inr (.inr (.inl ⟨p,p',xs,ys,rfl,rfl,h1,h2,sz4 (by omega),λr n=>?_⟩));have f:=e.new (o:= .lst (xs++ys)) n;exact q _ _ _ h.2 f ⟨r,_,rfl,n,aJ,DUs.mono (λb o nb h=>⟨λz=>z.elim nb (aQ h n),(e.keep f b o nb h).2⟩) _ (ds.app ds')⟩
 ·rename_i l m;obtain⟨p,xs,rfl,_,h1,ds⟩:=d1.tp;obtain⟨p',ys,rfl,nb,h2,ds'⟩:=d2.tp;have:=ds.length;have:=ds'.length;cases l with
  |nil=>
   rw [show xs=[]from ds]at h1;exact .inr (.inr (.inr (.inr ⟨p,p',ys,rfl,rfl,SqT.of h1,SqT.of h2,q (.sh (.tp m)) _ _ h.2 e.refl ⟨p',ys,rfl,nb,h2,ds'⟩⟩)))
  |cons a l=>
   refine .inr (.inr (.inr (.inl ⟨p,p',xs,ys,rfl,rfl,SqT.of h1,SqT.of h2,?_,sz4 (by omega),λz=>?_,λ_ r n=>?_⟩)))
   ·intro z;rw [z]at ds;obtain⟨_,_,e1,_⟩:=ds;cases e1
   ·subst z;have hm:m=[]:=List.length_eq_zero_iff.mp (by simpa using this);subst hm;exact q _ _ _ h.2 e.refl ⟨p,xs,rfl,by assumption,h1,by rw [Bg];exact ds⟩
   ·have f:=e.new (o:= .tup (xs++ys)) n;exact q _ _ _ h.2 f ⟨r,_,rfl,e.nw n,aJ,DUs.mono (e.keep f) _ (ds.app ds')⟩
 ·exact h.elim
def aIc (g g':U->U->(Sl->Prop)->Prop) (a b c:TV):TV:=λρ R=>a ρ λs=>b ρ λs'=>g s.rd s'.rd λr=>match r.rd with
 | .v (.bl k)=>(k=true->c ρ λs''=>g' s'.rd s''.rd R)/\(k=false->R (.sh (.b false)))
 |_=>False
def aFq {r r':R2} {g g':U->U->(Sl->Prop)->Prop} {ta tb tc:TE} {F G E:TV} (o:O2 r g) (o':O2 r' g') (ha:VT ta F) (hb:VT tb G) (hc:VT tc E):VT (aG6 r r' ta tb tc) (aIc g g' F G E):=λe h q=>by
 refine ha e h λs v H1 h1 f1 r1=>?_;have e1:=e.to f1;refine hb e1 h1 λs' v' H2 h2 f2 r2=>?_;have e2:=e1.to f2;have db2:=r2.db e1.eb;refine o e2.eb ((r1.db e.eb).to e1.eb f2) db2 h2 λs3 z H3 h3 f3 r3=>?_;have d:=r3.db e2.eb;revert h3 d;generalize s3.rd=u;intro h3 d;split at h3
 ·rename_i k;refine⟨k,d.fl.1,?_⟩;have e3:=e2.to f3;cases k with
  |true=>
   refine aGn (hc e3 (h3.1 rfl) λs4 v4 H4 h4 f4 r4=>?_);refine o' (e3.to f4).eb ((db2.to e2.eb f3).to e3.eb f4) (r4.db e3.eb) h4 λs5 v5 H5 h5 f5 r5=>?_;have ff:=((f1.trans f2).trans f3).trans f4;exact q _ _ _ h5 (ff.trans f5) (r5.back ff)
  |false=>exact qP (q _ _ _ (h3.2 rfl) ((f1.trans f2).trans f3) ⟨rfl,rfl⟩)
 ·exact h3.elim
def aFt {op op':CmpOp} {r r':R2} {g g':U->U->(Sl->Prop)->Prop} {a b c:Expr} {F G E:TV} (ho:OpR X (compareOp op) r) (ho':OpR X (compareOp op') r') (o:O2 r g) (o':O2 r' g') (ha:VE X a F) (hb:VE X b G) (hc:VE X c E) (hm:lastMarks [op,op'] [b,c]=false:=by with_unfolding_all rfl):VE X (.Compare a [op,op'] [b,c] pos) (aIc g g' F G E):=
 let⟨_,p,f⟩:=ha;let⟨_,p1,f1⟩:=hb;let⟨_,p2,f2⟩:=hc;⟨_,aNx ho ho' p p1 p2 hm,aFq o o' f f1 f2⟩
def wB {op op':CmpOp} {r r':R2} {g g':U->U->(Sl->Prop)->Prop} {a b c:Expr} {F G E:TV} (ho:OpR X (compareOp op) r) (ho':OpR X (compareOp op') r') (o:O2 r g) (o':O2 r' g') (ha:VE X a F) (hb:VE X b G) (hc:VE X c E) (hm:lastMarks [op,op'] [b,c]=false:=by with_unfolding_all rfl):VC X (.Compare a [op,op'] [b,c] pos) (kO (aIc g g' F G E)):=
 let⟨_,p,f⟩:=ha;let⟨_,p1,f1⟩:=hb;let⟨_,p2,f2⟩:=hc;⟨_,aQa ho ho' p p1 p2 hm,yQ (aFq o o' f f1 f2)⟩
def vUn (g:Int->Int) (a:TV):TV:=λρ R=>a ρ λs=>match s.rd with
 | .v (.int i)=>R (.sh (.n (g i)))
 |_=>False
def aNu {F:TV} (ha:VE X a F):VE X (.UnaryOp .USub a pos) (vUn (λi=> -i) F):=let⟨_,p,f⟩:=ha;⟨_,aTc aPf p,λe h q=>f e h λs v H1 h1 f1 r=>by
 have d:=r.db e.eb;revert h1 d;generalize s.rd=u;intro h1 d;split at h1
 ·exact⟨_,d.int,q _ _ _ h1 f1 ⟨rfl,rfl⟩⟩
 ·exact h1.elim⟩
def aYh (a:TV) (k:Str):TV:=λρ R=>a ρ λs=>match s.rd with
 | .dk ns us=>wH k ns us R
 |_=>False
theorem yH {W B:Addr->Prop} {H:Hp} {f:Str} {R:Sl->Prop}:∀{ns:List Str} {us:List U} {xs:List V},DUs W B H us xs->wH f ns us R->∃u v,R (.sh u)/\DU W B H u v/\mR ((ns.map Ct).zip xs:List (Key×V)) (Ct f)=some v
 |n::ns,u::us,_,⟨x,r,e,h,t⟩,q=>by
  subst e;rcases q with ⟨rfl,q⟩|⟨ne,q⟩
  ·exact⟨u,x,q,h,by rw [Aw,Gh,oW rfl]⟩
  ·obtain⟨u',v,h1,h2,h3⟩:=yH t q;refine⟨u',v,h1,h2,?_⟩;rw [Aw,Gh,oH (λz=>ne (Nu z))];exact h3
def jO {k:Str} {j pos p} {F:TV} (hu:X.A.units+1<cLine) (ha:VE X a F) (hs:aH6 (.Constant (.str k) j p):=by exactλ_ _=>rfl):VE X (.Subscript a (.Constant (.str k) j p) pos) (aYh F k):=let⟨_,p,f⟩:=ha;⟨_,aC8 hu p bY hs,λe h q=>f e h λs v H1 h1 f1 r=>by
 have d:=r.db e.eb;revert h1 d;generalize s.rd=u;intro h1 d;split at h1
 ·obtain⟨p,xs,rfl,_,hp,_,ds⟩:=d.dk;obtain⟨u,v,h2,h3,h4⟩:=yH ds h1;refine⟨p,v,rfl,?_,q _ _ _ h2 f1 h3⟩;rw [<-h4];exact zQ.k (k:=Ct k) hp
 ·exact h1.elim⟩
def DBs.one {W B:Addr->Prop} {H:Hp} {u:U} (h:DBs W B H [u] vs):∃x,vs=[x]/\DB W B H u x:=by
 obtain⟨x,r,e,d,t⟩:=h;obtain rfl:r=[]:=t;exact⟨x,e,d⟩
def DBs.two {W B:Addr->Prop} {H:Hp} {u v:U} (h:DBs W B H [u,v] vs):∃x y,vs=[x,y]/\DB W B H u x/\DB W B H v y:=by
 obtain⟨x,r,e,d,y,r',rfl,d',t⟩:=h;obtain rfl:r'=[]:=t;exact⟨x,y,e,d,d'⟩
def aXq:List U->(Sl->Prop)->Prop
 | [.ls l],R=>R (.sh (.n l.length))
 | [.tp l],R=>R (.sh (.n l.length))
 |_,_=>False
def dO {K:Ac}:CB (λxs H Q=>∃p ys,xs=[.ref p]/\(SqL K H p ys∨SqT K H p ys)/\Q (.int ys.length) H) aXq:=λ{W B H us vs R Q} e d h q=>by
 unfold aXq at h;split at h
 ·obtain⟨x,rfl,dd⟩:=DBs.one d;obtain⟨p,xs,rfl,_,hp,ds⟩:=dd.ls e;exact⟨p,xs,rfl,.inl (SqL.of hp),by rw [<-ds.length];exact q _ _ _ h e.refl ⟨rfl,rfl⟩⟩
 ·obtain⟨x,rfl,dd⟩:=DBs.one d;obtain⟨p,xs,rfl,_,hp,ds⟩:=dd.tp;exact⟨p,xs,rfl,.inr (SqT.of hp),by rw [<-ds.length];exact q _ _ _ h e.refl ⟨rfl,rfl⟩⟩
 ·exact h.elim
def DUs.bls {W B:Addr->Prop} {H:Hp}:∀{bs:List Bool} {xs:List V},DUs W B H (bs.map U.b) xs->xs=bs.map V.bl
 | [],_,h=>h
 |_::_,_,⟨x,r,e,d,t⟩=>by rw [e,d.1,DUs.bls t];rfl
def DUs.ints {W B:Addr->Prop} {H:Hp}:∀{ns:List Int} {xs:List V},DUs W B H (ns.map U.n) xs->xs=ns.map V.int
 | [],_,h=>h
 |_::_,_,⟨x,r,e,d,t⟩=>by rw [e,d.1,DUs.ints t];rfl
inductive aTq (f:List Bool->Bool) (us:List U) (R:(Sl->Prop)):Prop
 |mk (bs:List Bool) (q0_:us=[.ls (bs.map U.b)]) (q1_:R (.sh (.b (f bs)))):aTq f us R
def aZ6 (f:List Bool->Bool):List U->(Sl->Prop)->Prop:=λus R=>aTq f us R
def aHn {X:Cx} {f:List Bool->Bool} (hc:X.calm=true):CB (λxs H Q=>∃(p:Addr) (bs:List Bool),xs=[.ref p]/\SqL X.K H p (bs.map V.bl)/\X.calm=true/\Q (.bl (f bs)) H) (aZ6 f):=λ{W B H us vs R Q} e d ⟨bs,eu,h⟩ q=>by
 subst eu;obtain⟨x,rfl,dd⟩:=DBs.one d;obtain⟨p,xs,rfl,_,hp,ds⟩:=dd.ls e;rw [ds.bls]at hp;exact⟨p,bs,rfl,SqL.of hp,hc,q _ _ _ h e.refl ⟨rfl,rfl⟩⟩
def aXs:List U->(Sl->Prop)->Prop
 | [.v (.int i)],R=>R (.sh (.n i))
 | [.v (.bl k)],R=>R (.sh (.n (if k then 1 else 0)))
 |_,_=>False
def aP0:CB (λxs H Q=>(∃i,xs=[.int i]/\Q (.int i) H)∨∃k,xs=[.bl k]/\Q (.int (if k then 1 else 0)) H) aXs:=λ{W B H us vs R Q} e d h q=>by
 unfold aXs at h;split at h
 ·obtain⟨x,rfl,dd⟩:=DBs.one d;exact .inl ⟨_,by rw [dd.int],q _ _ _ h e.refl ⟨rfl,rfl⟩⟩
 ·obtain⟨x,rfl,dd⟩:=DBs.one d;exact .inr ⟨_,by rw [dd.fl.1],q _ _ _ h e.refl ⟨rfl,rfl⟩⟩
 ·exact h.elim
def aT2:List U->(Sl->Prop)->Prop
 | [.ls l],R=>R (.ow l)
 | [.tp l],R=>R (.ow l)
 |_,_=>False
def vL {K:Ac}:CB (aN4 K) aT2:=λ{W B H us vs R Q} e d h q=>by
 have fin:∀{l ys} (ds:DUs W B H l ys) (h:R (.ow l)) r,H r=none->Q (.ref r) (upd H r (.lst ys)):=λ{l ys} ds h r n=>by
  have f:=e.new (o:= .lst ys) n;exact q _ _ _ h f ⟨r,_,rfl,n,aJ,DUs.mono (λb o nb h=>⟨λz=>z.elim nb (aQ h n),(e.keep f b o nb h).2⟩) _ ds⟩
 unfold aT2 at h;split at h
 ·obtain⟨x,rfl,dd⟩:=DBs.one d;obtain⟨p,xs,rfl,_,hp,ds⟩:=dd.ls e;exact⟨p,xs,rfl,.inl (SqL.of hp),fin ds h⟩
 ·obtain⟨x,rfl,dd⟩:=DBs.one d;obtain⟨p,xs,rfl,_,hp,ds⟩:=dd.tp;exact⟨p,xs,rfl,.inr (SqT.of hp),fin ds h⟩
 ·exact h.elim
def aPj:List U->(Sl->Prop)->Prop
 | [.ls l],R=>R (.sh (.tp l))
 | [.tp l],R=>R (.sh (.tp l))
 |_,_=>False
def aEn {K:Ac}:CB (aIt K) aPj:=λ{W B H us vs R Q} e d h q=>by
 unfold aPj at h;split at h
 ·obtain⟨x,rfl,dd⟩:=DBs.one d;obtain⟨p,xs,rfl,_,hp,ds⟩:=dd.ls e;refine⟨p,xs,rfl,.inl ⟨SqL.of hp,λr n=>?_⟩⟩;have f:=e.new (o:= .tup xs) n;exact q _ _ _ h f ⟨r,_,rfl,e.nw n,aJ,DUs.mono (e.keep f) _ ds⟩
 ·obtain⟨x,rfl,dd⟩:=DBs.one d;obtain⟨p,xs,rfl,nb,hp,ds⟩:=dd.tp;exact⟨p,xs,rfl,.inr ⟨SqT.of hp,q _ _ _ h e.refl ⟨p,xs,rfl,nb,hp,ds⟩⟩⟩
 ·exact h.elim
def dM {i:Int} {t:Tok} (hm:X.mg x=some (.int i t)) (hg:Gl X x:=by rfl) (hd:(x==("__debug__":Str))=false:=by decide):VE X (.Name x pos) (vC (.n i)):=⟨_,zE (v:= .int i) hg hm ⟨_,rfl⟩ hd,aOx rfl⟩
def mF {st:Stmt}:VS X st (λ_ _=>False):=⟨_,dY,λ_ h _=>h⟩
def aT5 {e:Expr} {F:TV} (he:VE X e F) (hs:swapsWith e none pos.line X.env=pure false:=by rfl):VS X (.Expr e pos) (vDo F):=let⟨_,p,f⟩:=he;⟨_,cV p hs,λo h j=>f o.ee h λs v H1 h1 w r=>j.nx (o.to w) h1⟩
def aRi (neg:Bool) (F:TV):TV:=λρ R=>F ρ λs=>match s.rd with
 | .v x=>R (.sh (.b (if neg then !decide (x= .non)else decide (x= .non))))
 | .op _=>False
 |_=>R (.sh (.b neg))
def DB.non {W B:Addr->Prop} {H:Hp} {u:U} (e:EB W B H) (d:DB W B H u y) (h1:∀x,u≠ .v x) (h2:∀o,u≠ .op o):y≠ .non:=by
 intro z;subst z;cases u with
 |v x=>exact h1 x rfl
 |op o=>exact h2 o rfl
 |tp l=>obtain⟨_,_,q,_⟩:=d.tp;cases q
 |ls l=>obtain⟨_,_,q,_⟩:=d.ls e;cases q
 |ob C ns us=>obtain⟨_,_,_,q,_⟩:=d.ob;cases q
 |dk ns us=>obtain⟨_,_,q,_⟩:=d.dk;cases q
 |wl=>
  rcases d with ⟨_,q,_⟩|⟨_,_,_,q,_⟩<;>cases q
def aWk {F:TV} (f:VT t F):VT (aYc t) (aRi false F):=λe h q=>f e h λs v H1 h1 w r=>by
 have d:=r.db e.eb;revert h1 d;generalize s.rd=u;intro h1 d;split at h1
 ·rw [d.fl.1];exact q _ _ _ h1 w ⟨rfl,rfl⟩
 ·exact h1.elim
 ·rename_i n1 n2;rw [decide_eq_false (d.non (e.to w).eb n1 n2)];exact q _ _ _ h1 w ⟨rfl,rfl⟩
def aRa {F:TV} (f:VT t F):VT (aTg t) (aRi true F):=λe h q=>f e h λs v H1 h1 w r=>by
 have d:=r.db e.eb;revert h1 d;generalize s.rd=u;intro h1 d;split at h1
 ·rw [d.fl.1];exact q _ _ _ h1 w ⟨rfl,rfl⟩
 ·exact h1.elim
 ·rename_i n1 n2;rw [decide_eq_false (d.non (e.to w).eb n1 n2)];exact q _ _ _ h1 w ⟨rfl,rfl⟩
def aTk {F:TV} (h:VT t F):VTc (tB t) (kO F):=yQ h
def aVg {j pos pos'} {F:TV} (ha:VE X a F):VC X (.Compare a [.Is] [.Constant .none j pos'] pos) (kO (aRi false F)):=let⟨_,p,f⟩:=ha;⟨_,aNk (aV6 p),aTk (aWk f)⟩
def aJe {j pos pos'} {F:TV} (ha:VE X a F):VC X (.Compare a [.IsNot] [.Constant .none j pos'] pos) (kO (aRi true F)):=let⟨_,p,f⟩:=ha;⟨_,aNk (aQy p),aTk (aRa f)⟩
inductive Tg where
 |non|bl|int|str|tp|ls|dk
def tyU:U->Option Tg
 | .v .non=>some .non
 | .v (.bl _)=>some .bl
 | .v (.int _)=>some .int
 | .v (.str _)=>some .str
 | .tp _=>some .tp
 | .ls _=>some .ls
 | .dk _ _=>some .dk
 |_=>none
def Tg.nm:Tg->String
 | .non=>"NoneType"| .bl=>"bool"| .int=>"int"| .str=>"str"| .tp=>"tuple"| .ls=>"list"| .dk=>"dict"
def isT:Tg->Tg->Bool
 | .non,.non=>true
 | .bl,.bl=>true
 | .bl,.int=>true
 | .int,.int=>true
 | .str,.str=>true
 | .tp,.tp=>true
 | .ls,.ls=>true
 | .dk,.dk=>true
 |_,_=>false
def aXt {W B:Addr->Prop} {H:Hp} {u:U} {t:Tg} {K:Ac} (e:EB W B H) (d:DB W B H u y) (h:tyU u=some t):uX K H y (.type t.nm):=by
 unfold tyU at h;split at h<;>cases h
 ·rw [d.fl.1];exact .non
 ·rw [d.fl.1];exact .bl _
 ·rw [d.fl.1];exact .int _
 ·rw [d.fl.1];exact .str _
 ·obtain⟨p,xs,rfl,_,h,_⟩:=d.tp;exact .tup h
 ·obtain⟨p,xs,rfl,_,h,_⟩:=d.ls e;exact .lst h
 ·obtain⟨p,xs,rfl,_,h,_⟩:=d.dk;exact .dK h
def aUy {K:Ac} {t n:Tg} (hn:n≠ .non):Lg K (.type t.nm) (.type n.nm)=some (isT t n):=by
 cases t<;>cases n<;>first|rfl|exact(hn rfl).elim
def aX9 (n:Tg) (F:TV):TV:=λρ R=>F ρ λs=>∃t,tyU s.rd=some t/\R (.sh (.b (isT t n)))
def rK {F:TV} {p p' pos:Pos} (n:Tg) (hn:n≠ .non) (hm:X.mg "isinstance"=none) (hm2:X.mg x=none) (hv:bootBuiltins x=some (.type n.nm)) (ha:VE X a F) (hg:Gl X "isinstance":=by rfl) (hg2:Gl X x:=by rfl) (h1:x≠"__name__":=by decide) (h2:(x==("__debug__":Str))=false:=by decide)
  (hs:starEach [a,.Name x p'] X.env=(false,eval a X.env)::starEach [.Name x p'] X.env:=by rfl) (hs2:starEach [.Name x p'] X.env=(false,eval (.Name x p') X.env)::starEach [] X.env:=by rfl) (hpl:(backTo pos (starEach [.Name x p'] X.env)).any (·.1)=false:=by rfl):
  VE X (.Call (.Name "isinstance" p) [a,.Name x p'] [] pos) (aX9 n F):=
 let⟨_,q,f⟩:=ha;⟨_,gR xR hg hm Vs (aN q (aN (aJ2 (v:= .ty n.nm) hg2 hm2 hv rfl h1 h2) aZ hs2) hs) (by decide) (by decide) hs hpl,λe h q=>f e h λs v H1 ⟨t,ht,h1⟩ w r=>
  ⟨_,_,_,_,rfl,aXt (K:=X.K) (e.to w).eb (r.db e.eb) ht,aUy hn,q _ _ _ h1 w ⟨rfl,rfl⟩⟩⟩
def gIn (neg:Bool):U->U->(Sl->Prop)->Prop
 |u,.ls l,R=>u.dt 40/\U.dts 40 l/\R (.sh (.b (if neg then !(l.any λe=>e.eq u)else l.any λe=>e.eq u)))
 |u,.tp l,R=>u.dt 40/\U.dts 40 l/\R (.sh (.b (if neg then !(l.any λe=>e.eq u)else l.any λe=>e.eq u)))
 |_,_,_=>False
theorem aHx (u:U):∀l:List U,((U.ds l).any λe=>e.eq u.d)=l.any λe=>e.eq u
 | []=>rfl
 |a::l=>by rw [U.ds,Dw,Dw,aHx u l];rfl
def aE0 {K:Ac} {neg:Bool}:O2 (aWc K neg) (gIn neg):=λ{W B H u v x y R Q} e d1 d2 h q=>by
 unfold gIn at h;split at h
 ·obtain⟨t1,t2,h⟩:=h;obtain⟨p,xs,rfl,_,hp,ds⟩:=d2.ls e;have h1:=U.dep 40 u t1;have h2:=U.deps 40 _ t2;exact⟨u.d,p,xs,_,d1.den t1,rfl,.inl (SqL.of hp),DUs.dens 40 _ t2 ds,by omega,by rw [aHx];exact q _ _ _ h e.refl ⟨rfl,rfl⟩⟩
 ·obtain⟨t1,t2,h⟩:=h;obtain⟨p,xs,rfl,_,hp,ds⟩:=d2.tp;have h1:=U.dep 40 u t1;have h2:=U.deps 40 _ t2;exact⟨u.d,p,xs,_,d1.den t1,rfl,.inr (SqT.of hp),DUs.dens 40 _ t2 ds,by omega,by rw [aHx];exact q _ _ _ h e.refl ⟨rfl,rfl⟩⟩
 ·exact h.elim
inductive aS6 (us:List U) (R:(Sl->Prop)):Prop
 |mk (ns:List Int) (q0_:us=[.ls (ns.map U.n)]) (q1_:ns.length<=1000) (q2_:(∀n∈ns,0<=n/\n<=1000)) (q3_:R (.sh (.n ns.sum))):aS6 us R
def aZk:List U->(Sl->Prop)->Prop:=λus R=>aS6 us R
def aVs {K:Ac}:CB (aXz K) aZk:=λ{W B H us vs R Q} e d ⟨ns,eu,hl,hn,h⟩ q=>by
 subst eu;obtain⟨x,rfl,dd⟩:=DBs.one d;obtain⟨p,xs,rfl,_,hp,ds⟩:=dd.ls e;rw [ds.ints]at hp;exact⟨p,ns,rfl,SqL.of hp,hl,hn,q _ _ _ h e.refl ⟨rfl,rfl⟩⟩
def gII (f:Int->Int->Int):List U->(Sl->Prop)->Prop
 | [.v (.int i),.v (.int j)],R=>R (.sh (.n (f i j)))
 |_,_=>False
def aYi {f:Int->Int->Int}:CB (λxs H Q=>∃i j,xs=[.int i,.int j]/\Q (.int (f i j)) H) (gII f):=λ{W B H us vs R Q} e d h q=>by
 unfold gII at h;split at h
 ·obtain⟨x,y,rfl,d1,d2⟩:=DBs.two d;exact⟨_,_,by rw [d1.int,d2.int],q _ _ _ h e.refl ⟨rfl,rfl⟩⟩
 ·exact h.elim
def aY2 (F:TVa) (D:TV):TV:=λρ R=>F ρ λus=>D ρ λs=>∃ns:List Int,us=[.ls (ns.map U.n)]/\match s.rd with
 | .v (.int d)=>(ns=[]->R (.sh (.n d)))/\∀m:Int,m∈ns->(∀a∈ns,a<=m)->R (.sh (.n m))
 |_=>False
def aI6 {k:Expr} {kp:Pos} {F:TVa} {D:TV} {p pos:Pos} (hc:X.calm=true) (hm:X.mg "max"=none) (ha:VB X [a] F) (hk:VE X k D) (hg:Gl X "max":=by rfl)
  (hkw:∀{tk:TE},PE X k tk->PK X [⟨some "default",k,kp⟩] (aEm tk aKi):=by exactλh=>aRp h aVf)
  (hall:(backToKw pos (keywordEach [⟨some "default",k,kp⟩] X.env)).all (·.1.isSome)=true:=by rfl) (hks:(backToKw pos (keywordEach [⟨some "default",k,kp⟩] X.env)).filterMap (·.1)=[("default":Str)]:=by rfl)
  (he:starEach [a] X.env=(false,eval a X.env)::starEach [] X.env:=by rfl) (hpl:(backTo pos (starEach [a] X.env)).any (·.1)=false:=by rfl) (hpk:(backToKw pos (keywordEach [⟨some "default",k,kp⟩] X.env)).any (·.1.isNone)=false:=by rfl):
  VE X (.Call (.Name "max" p) [a] [⟨some "default",k,kp⟩] pos) (aY2 F D):=
 let⟨_,q1,f1⟩:=ha;let⟨_,q2,f2⟩:=hk;⟨_,aLv (aKz hc) hg hm boot_max q1 (hkw q2) hall hks (by decide) (by decide) he hpl hpk,λe h q=>f1 e h λus vs H1 h1 w1 d1=>f2 (e.to w1) h1 λs v H2 h2 w2 r2=>by
  obtain⟨ns,eu,h2⟩:=h2;subst eu;have e2:=(e.to w1).to w2;obtain⟨x,rfl,d⟩:=DBs.one (DBs.to (e.to w1).eb w2 d1);obtain⟨p,xs,rfl,_,hp,ds⟩:=d.ls e2.eb;rw [ds.ints]at hp;have dd:=r2.db (e.to w1).eb;revert h2 dd;generalize s.rd=u;intro h2 dd;split at h2
  ·rw [dd.int];exact⟨p,ns,_,rfl,rfl,SqL.of hp,λz=>q _ _ _ (h2.1 z) (w1.trans w2) ⟨rfl,rfl⟩,λm hm ha=>q _ _ _ (h2.2 m hm ha) (w1.trans w2) ⟨rfl,rfl⟩⟩
  ·exact h2.elim⟩
def huD {A:Around} (hr:dH k A):A.units+101<cLine:=by have:=hr.un;omega
def Rbl {R:Sl->Prop} {c d:Bool} (q:R (.sh (.b d))) (h:c=d):R (.sh (.b c)):=h▸q
theorem cC {g:TVg} {b:TVS} {E:aAk} (I:List U->EV->Prop) (hn:∀ρ,I [] ρ->E.nx ρ) (hc:∀u r ρ,I (u::r) ρ->(∀ρ',I r ρ'->lY g b E r ρ')->lY g b E (u::r) ρ):∀{l ρ},I l ρ->lY g b E l ρ
 | [],ρ,h=>hn ρ h
 |u::r,ρ,h=>hc u r ρ h λ_ h'=>cC I hn hc h'
theorem eY {f:U->(Option U->Prop)->Prop} {R:List U->Prop} {h:U->U}:∀{l acc:List U},(∀u∈l,∀k,k (some (h u))->f u k)->R (acc++l.map h)->gD f l acc R
 | [],acc,_,r=>by rw [Dn,Bg]at r;exact r
 |u::l,acc,hf,r=>hf u Ae _ (eY (λx hx=>hf x (Ad _ hx)) (by rw [Bi];exact r))
abbrev Tke:Type:=Int×List Int
def tkU (x:Tke):U:= .tp [.n x.1,.tp (x.2.map U.n)]
def DUs.mapInts {W B:Addr->Prop} {H:Hp}:∀{ns:List Int},DUs W B H (ns.map U.n) (ns.map V.int)
 | []=>rfl
 |_::_=>⟨_,_,rfl,⟨rfl,rfl⟩,DUs.mapInts⟩
theorem aM0 {W B:Addr->Prop} {H:Hp}:∀{xs:List Tke} {zs:List V},DUs W B H (xs.map tkU) zs->∃ps:List (Tke×Addr),zs=ps.map (λx=>V.ref x.2)/\ps.map (·.1)=xs/\∀x∈ps,PKy H x/\DU W B H (tkU x.1) (.ref x.2)
 | [],_,h=>⟨[],h,rfl,λ_ z=>nomatch z⟩
 |x::xs,_,⟨v,r,e,d,t⟩=>by
  obtain⟨ps,e1,e2,h⟩:=aM0 t;obtain⟨a,ys,rfl,nb,ha,y1,_,rfl,f1,y2,r2,rfl,⟨q,zs,rfl,nq,hq,dz⟩,e3⟩:=id d;obtain rfl:r2=[]:=e3;rw [f1.1]at ha;refine⟨(x,a)::ps,by rw [e,e1];rfl,by rw [Aw,e2],λz hz=>?_⟩;rcases List.mem_cons.mp hz with rfl|hz
  ·exact⟨⟨q,ha,by rw [dz.ints]at hq;exact hq⟩,d⟩
  ·exact h z hz
theorem aIf {W B:Addr->Prop} {H:Hp}:∀{ps:List (Tke×Addr)},(∀x∈ps,DU W B H (tkU x.1) (.ref x.2))->DUs W B H ((ps.map (·.1)).map tkU) (ps.map λx=>V.ref x.2)
 | [],_=>rfl
 |x::ps,h=>⟨_,_,rfl,h x Ae,aIf λy hy=>h y (Ad _ hy)⟩
def aWv (F:TVa):TV:=λρ R=>F ρ λus=>∃xs ks:List Tke,us=[.ls (xs.map tkU)]/\xs.length<=60/\ks.length<18/\(∀x∈xs,x∈ks)/\∀ys:List Tke,ys.Pairwise (λx y=>mO x y=true)->(∀y,y∈ys↔y∈xs)->R (.ow (ys.map tkU))
def aV0 (F:TVa):TV:=λρ R=>F ρ λus=>∃(ns:List Nat) (x:Nat),us=[.ls (ns.map λk:Nat=>U.n k)]/\(∀n∈ns,n=x)/\x∈[1,2,3]/\R (.ow ((zs1 x (decide (0<ns.length))).map λk:Nat=>U.n k))
def DUs.nats {W B:Addr->Prop} {H:Hp}:∀{ns:List Nat} {xs:List V},DUs W B H (ns.map λk:Nat=>U.n k) xs->xs=xK ns
 | [],_,h=>h
 |_::_,_,⟨x,r,e,d,t⟩=>by rw [e,d.1,DUs.nats t];rfl
def DUs.ofNats {W B:Addr->Prop} {H:Hp}:∀{ns:List Nat},DUs W B H (ns.map λk:Nat=>U.n k) (xK ns)
 | []=>rfl
 |_::_=>⟨_,_,rfl,⟨rfl,rfl⟩,DUs.ofNats⟩
def aDm {F:TVa} {p p' pos pos':Pos} (hr:dH k X.A) (hc:X.calm=true) (h1:X.mg "sorted"=none) (h2:X.mg "set"=none) (ha:VB X [a] F) (g1:Gl X "sorted":=by rfl) (g2:Gl X "set":=by rfl) (hs:starEach [a] X.env=(false,eval a X.env)::starEach [] X.env:=by rfl) (hpl:(backTo pos' (starEach [] X.env)).any (·.1)=false:=by rfl)
  (hs':starEach [.Call (.Name "set" p') [a] [] pos'] X.env=(false,eval (.Call (.Name "set" p') [a] [] pos') X.env)::starEach [] X.env:=by rfl) (hpl':(backTo pos (starEach [] X.env)).any (·.1)=false:=by rfl):VE X (.Call (.Name "sorted" p) [.Call (.Name "set" p') [a] [] pos'] [] pos) (aWv F):=
 let⟨_,q,f⟩:=ha;⟨_,gR (aDk (by have:=hr.un;omega) hc) g1 h1 Rk (aN (lX (aKm (by have:=hr.un;omega) hc) g2 h2 boot_set q (by decide) (by decide) hs hpl) aZ hs') (by decide) (by decide) hs' hpl',λ{W B ρ σ H R Q} e h q=>f e h λus vs H1 ⟨xs,ks,eu,xl,kl,km,h1⟩ w1 d=>by
  subst eu;have e1:=e.to w1;obtain⟨x,rfl,dd⟩:=DBs.one d;obtain⟨p,zs,rfl,_,hp,ds⟩:=dd.ls e1.eb;obtain⟨ps,rfl,rfl,hk⟩:=aM0 ds;rw [Ab]at xl;refine⟨p,ps,rfl,SqL.of hp,λx hx=>(hk x hx).1,by omega,⟨ks,kl,λx hx=>km _ (List.mem_map.mpr ⟨x,hx,rfl⟩)⟩,λl zs nl nd sub all zl=>?_⟩;have w2:=e1.eb.new (o:= .ext (lH X.prog X.w l zs)) nl;have k2:∀x∈zs,PKy (upd H1 l (.ext (lH X.prog X.w l zs))) x/\DU W B (upd H1 l (.ext (lH X.prog X.w l zs))) (tkU x.1) (.ref x.2):=λx hx=>by
   obtain⟨⟨q,a1,a2⟩,a3⟩:=hk x (sub x hx);exact⟨⟨q,(aM (aQ a1 nl)).trans a1,(aM (aQ a2 nl)).trans a2⟩,DU.mono (e1.eb.keep w2) _ a3⟩
  have e2:=e1.to w2;refine⟨l,zs,rfl,aJ,λx hx=>(k2 x hx).1,by omega,λm ys nm pm pw=>?_⟩;have w3:=e2.eb.new (o:= .lst (ys.map λx=>V.ref x.2)) nm;refine q (.ow ((ys.map (·.1)).map tkU)) _ _ (h1 _ ?_ λy=>?_) ((w1.trans w2).trans w3) (RO.back (s:= .ow _) (w1.trans w2) ⟨m,_,rfl,nm,aJ,aIf λx hx=>?_⟩)
  ·rw [Dt];exact pw
  ·constructor
   ·intro hy;obtain⟨x,hx,rfl⟩:=List.mem_map.mp hy;exact List.mem_map.mpr ⟨x,sub x (pm.mem_iff.mp hx),rfl⟩
   ·intro hy;obtain⟨x,hx,rfl⟩:=List.mem_map.mp hy;obtain⟨z,hz,e⟩:=all x hx;exact List.mem_map.mpr ⟨z,pm.mem_iff.mpr hz,e⟩
  ·exact DU.mono (λb o nb h=>⟨λz=>z.elim nb (aQ h nm),(e2.eb.keep w3 b o nb h).2⟩) _ (k2 x (pm.mem_iff.mp hx)).2⟩
def aOm {F:TVa} {p p' pos pos':Pos} (hc:X.calm=true) (h1:X.mg "sorted"=none) (h2:X.mg "set"=none) (ha:VB X [a] F) (g1:Gl X "sorted":=by rfl) (g2:Gl X "set":=by rfl) (hs:starEach [a] X.env=(false,eval a X.env)::starEach [] X.env:=by rfl) (hpl:(backTo pos' (starEach [] X.env)).any (·.1)=false:=by rfl)
  (hs':starEach [.Call (.Name "set" p') [a] [] pos'] X.env=(false,eval (.Call (.Name "set" p') [a] [] pos') X.env)::starEach [] X.env:=by rfl) (hpl':(backTo pos (starEach [] X.env)).any (·.1)=false:=by rfl):VE X (.Call (.Name "sorted" p) [.Call (.Name "set" p') [a] [] pos'] [] pos) (aV0 F):=
 let⟨_,q,f⟩:=ha;⟨_,gR (aC7 hc) g1 h1 Rk (aN (lX (aKc hc) g2 h2 boot_set q (by decide) (by decide) hs hpl) aZ hs') (by decide) (by decide) hs' hpl',λ{W B ρ σ H R Q} e h q=>f e h λus vs H1 ⟨ns,y,eu,hn,h3,h1⟩ w1 d=>by
  subst eu;have e1:=e.to w1;obtain⟨x,rfl,dd⟩:=DBs.one d;obtain⟨p,zs,rfl,_,hp,ds⟩:=dd.ls e1.eb;rw [ds.nats]at hp;refine⟨p,ns,y,rfl,SqL.of hp,hn,h3,λl nl=>?_⟩;have w2:=e1.eb.new (o:= .ext (aCb X.w l y (decide (0<ns.length)))) nl;have e2:=e1.to w2;refine⟨l,y,_,rfl,aJ,h3,λm nm=>?_⟩;have w3:=e2.eb.new (o:= .lst (xK (zs1 y (decide (0<ns.length))))) nm;exact q (.ow _) _ _ h1 ((w1.trans w2).trans w3) (RO.back (s:= .ow _) (w1.trans w2) ⟨m,_,rfl,nm,aJ,DUs.ofNats⟩)⟩
inductive aX5 (C:Addr) (F:List U->(List Str->List U->Prop)->Prop) (vs:List V) (H:Hp) (Q:VK) (z3_:XK):Prop
 |mk (x dx vs' H1 W B us R:_) (q0_:vs= .ref x::vs') (q1_:H1 x=none) (q2_:H x=some (.ins C dx [])) (q3_:fC H1 H) (q4_:EB W B H1) (q5_:DUs W B H1 us vs') (q6_:F us R) (q7_:∀ns ws xs H',R ns ws->Fw W H1 H'->H' x=some (.ins C dx (ns.zip xs))->ns.length=xs.length->DUs W B H' ws xs->Q .non H'):aX5 C F vs H Q z3_
def spI (C:Addr) (F:List U->(List Str->List U->Prop)->Prop):Sp:=λvs H Q z3_=>aX5 C F vs H Q z3_
structure MkU (P:Program) (w:World) (K:Ac) (mg:Str->Option Value) (base:Heap) (k:Nat) (C:Addr) (x:Str) (ps:List Str) (F:List U->(List Str->List U->Prop)->Prop):Prop where
 ex:∃f fd,bB P w K mg base CX0 k f fd ps (spI C F)/\Mk K C f/\mg x=some (.ref C)/\Binds K fd ps []
def aYk (C:Addr) (F:List U->(List Str->List U->Prop)->Prop) (a:TVa):TV:=λρ R=>a ρ λus=>F us λns ws=>R (.sh (.ob C ns ws))
def aJc {F:List U->(List Str->List U->Prop)->Prop} {es:List Expr} {G:TVa} {p pos:Pos} (M:MkU X.prog X.w X.K X.mg X.base k C x ps F) (hr:dH (k+1) X.A) (ha:VA X (a::es) G) (hg:Gl X x:=by rfl)
  (hdb:(x==("__debug__":Str))=false:=by decide) (he:starEach (a::es) X.env=(false,eval a X.env)::starEach es X.env:=by rfl) (hpl:(backTo pos (starEach es X.env)).any (·.1)=false:=by rfl):VE X (.Call (.Name x p) (a::es) [] pos) (aYk C F G):=by
 obtain⟨f,fd,Fo,Mk_,hm,hb⟩:=M.ex;obtain⟨_,p,g⟩:=ha;refine⟨_,aIu Mk_ Fo hr hg hm hb .nil (E:=E0) bG p hdb he hpl,λ{W B ρ σ H R Q} e h q=>g e h λus vs H1 h1 _ w d=>λx dx nx nd ne=>?_⟩;have e1:=(e.to w).eb;refine⟨x,dx,vs,H1,W,B,us,_,by rw [Bg],nx,aJ,λb o hb=>?_,e1,d,h1,λns ws xs H' hR fw hx hl ds=>⟨rfl,q (.sh (.ob C ns ws)) _ _ hR (w.trans fw) ⟨x,dx,xs,rfl,e1.nw nx,hx,hl,ds⟩⟩⟩;rw [aM (aQ hb nx),aM (aQ hb nd)];exact hb
def aBp {F:TV} {σ:St} {H:Hp} {W B:Addr->Prop} {ρ:EV} {R:Sl->Prop} (e:EE W B H ρ σ) (h:F ρ R) (q:∀s v H',R s->Fw W H H'->RO W B H H' s v->Q v H'):tV F σ H Q:=⟨W,B,ρ,R,e,h,q⟩
def aAz {F:TVc} {σ:St} {H:Hp} {Q:Bool->Hp->Prop} {W B:Addr->Prop} {ρ:EV} {R:Bool->Prop} (e:EE W B H ρ σ) (h:F ρ R) (q:∀c H',R c->Fw W H H'->Q c H'):tVc F σ H Q:=⟨W,B,ρ,R,e,h,q⟩
section
variable {W B:Addr->Prop} {H H':Hp}
def mX {ρ:EV} {σ:St} {u:U} (d:DU W B H u v) (e:EE W B H ρ σ):EE W B H (.sh u::ρ) (some v::σ):=by
 refine⟨e.eb,by rw [Ah,Ah,e.len],λi u' h=>?_,λi s w h hs=>?_⟩
 ·cases i with
  |zero=>cases h;exact⟨v,rfl,d⟩
  |succ i=>exact e.sh i u' h
 ·cases i with
  |zero=>cases h;cases hs
  |succ i=>exact e.hd i s w h hs
def aPa (e:EB W B H):EE W B H [] []:=⟨e,rfl,nofun,nofun⟩
def qG {ρ:EV} {σ:St} {v:Option V} (e:EE W B H ρ σ):EE W B H (.no::ρ) (v::σ):=by
 refine⟨e.eb,by rw [Ah,Ah,e.len],λi u' h=>?_,λi s w h hs=>?_⟩
 ·cases i with
  |zero=>cases h
  |succ i=>exact e.sh i u' h
 ·cases i with
  |zero=>cases h;cases hs
  |succ i=>exact e.hd i s w h hs
mutual
theorem DU.data (k:∀b o,¬B b->H b=some o->(∃xs,o= .tup xs)∨(∃xs,o= .lst xs)->H' b=some o):∀(n:Nat) (u:U) {v:V},u.dt n->DU W B H u v->DU W B H' u v
 |_,.v _,_,_,h=>h
 |n+1,.tp l,_,t,⟨p,xs,e,nb,hp,ds⟩=>⟨p,xs,e,nb,k _ _ nb hp (.inl ⟨_,rfl⟩),DUs.data k n l t ds⟩
 |n+1,.ls l,_,t,⟨p,xs,e,nb,hp,ds⟩=>⟨p,xs,e,nb,k _ _ nb hp (.inr ⟨_,rfl⟩),DUs.data k n l t ds⟩
theorem DUs.data (k:∀b o,¬B b->H b=some o->(∃xs,o= .tup xs)∨(∃xs,o= .lst xs)->H' b=some o):∀(n:Nat) (l:List U) {xs:List V},U.dts n l->DUs W B H l xs->DUs W B H' l xs
 |_,[],_,_,h=>h
 |n,u::l,_,⟨t,t'⟩,⟨x,r,e,h,h'⟩=>⟨x,r,e,DU.data k n u t h,DUs.data k n l t' h'⟩
end
def Fw.upd {H1:Hp} {x:Addr} {o:HO} (f:Fw W H1 H) (n:H1 x=none) (nw:¬W x):Fw W H1 (upd H x o):=⟨λb u w h=>(aM (aQ h n)).trans (f.fr b u w h),λp hp=>by
 obtain⟨a,b,c,h⟩:=f.wo p hp;exact⟨a,b,c,(aM (λz:p=x=>nw (by rw [<-z];exact hp))).trans h⟩⟩
def fJ {x C dx:Addr} {fs:List (Str×V)} {o:HO} (h:H x=some (.ins C dx fs)):∀b u,¬B b->H b=some u->(∃xs,u= .tup xs)∨(∃xs,u= .lst xs)->upd H x o b=some u:=λb u _ hb ht=>by
 refine(aM (λz:b=x=>?_)).trans hb;rw [z,h]at hb;rcases ht with ⟨xs,rfl⟩|⟨xs,rfl⟩<;>cases hb
end
section
variable {W W' B:Addr->Prop} {H:Hp}
mutual
def Nw:U->Prop
 | .v _=>True
 | .tp l=>Nws l
 | .ls l=>Nws l
 | .ob _ _ us=>Nws us
 | .dk _ us=>Nws us
 |_=>False
def Nws:List U->Prop
 | []=>True
 |u::l=>Nw u/\Nws l
end
mutual
theorem DU.nw:∀(u:U) {v:V},Nw u->DU W B H u v->DU W' B H u v
 | .v _,_,_,h=>h
 | .tp l,_,n,⟨p,xs,e,nb,hp,t⟩=>⟨p,xs,e,nb,hp,DUs.nw l n t⟩
 | .ls l,_,n,⟨p,xs,e,nb,hp,t⟩=>⟨p,xs,e,nb,hp,DUs.nw l n t⟩
 | .ob _ _ us,_,n,⟨p,dx,xs,e,nb,hp,hl,t⟩=>⟨p,dx,xs,e,nb,hp,hl,DUs.nw us n t⟩
 | .dk _ us,_,n,⟨p,xs,e,nb,hp,hl,t⟩=>⟨p,xs,e,nb,hp,hl,DUs.nw us n t⟩
theorem DUs.nw:∀(l:List U) {xs:List V},Nws l->DUs W B H l xs->DUs W' B H l xs
 | [],_,_,h=>h
 |u::l,_,⟨n,n'⟩,⟨x,r,e,h,t⟩=>⟨x,r,e,DU.nw u n h,DUs.nw l n' t⟩
end
end
def Sl.nw:Sl->Prop
 | .sh u=>Nw u
 | .ow l=>Nws l
 |_=>False
def vWl (i:Nat) (G:TVS):TVS:=λE ρ=>match (ρ[i]? :Option Sl)with
 |some (.ow [.v (.int _),.v (.int _),.v (.int _)])=>G {nx:=λ_=>False,rt:=λs=>s.nw/\E.rt s} (ρ.set i (.sh .wl))
 |_=>False
open Classical in
def aMf {X:Cx} {st:List Stmt} {G:TVS} (i:Nat) (h:VSs X st G):VSs X st (vWl i G):=let⟨_,p,f⟩:=h;⟨_,p,λ{W B H0 A ρ σ H E D} o h j=>by
 unfold vWl at h;split at h
 ·rename_i a b c hi;obtain⟨q,xs,h1,h2,h3,h4⟩:=o.ow i _ hi;have ex:xs=[.int a,.int b,.int c]:=DUs.ints (ns:=[a,b,c]) h4;subst ex;have hq:=(h2 q).mpr rfl;have nq:H0 q=none:=o.an i q hq;have nB:¬B q:=o.now nq;have bx:∀b,Bx (λb=>B b∨b=q) (λj q=>j≠i/\A j q) b↔Bx B A b:=λb=>by
   constructor
   ·rintro((h|rfl)|⟨j,h⟩)
    ·exact .inl h
    ·exact .inr ⟨i,hq⟩
    ·exact .inr ⟨j,h.2⟩
   ·rintro(hb|⟨j,hb⟩)
    ·exact .inl (.inl hb)
    ·by_cases e:j=i
     ·rw [e]at hb;exact .inl (.inr ((h2 b).mp hb))
     ·exact .inr ⟨j,e,hb⟩
  have k:∀b x,¬Bx B A b->H b=some x->¬Bx (λb=>B b∨b=q) (λj q=>j≠i/\A j q) b/\H b=some x:=λb x n h=>⟨λz=>n ((bx b).mp z),h⟩;have own:∀b,B b->¬ ∃j,j≠i/\A j b:=λb hb ⟨j,_,h⟩=>o.now (o.an j b h) hb;have ownq:¬ ∃j,j≠i/\A j q:=λ⟨j,n,h⟩=>n (o.inj j i q h hq);let H2:Hp:=λb=>if∃j,j≠i/\A j b then none else H b
  have hH2:∀b x,H2 b=some x->H b=some x:=λb x h=>by
   have h:(if∃j,j≠i/\A j b then none else H b)=some x:=h;split at h
   ·cases h
   ·exact h
  have hH:∀b,(¬ ∃j,j≠i/\A j b)->H2 b=H b:=λb n=>if_neg n;have e0:=o.ee.eb;have Wl:∀p,(W p∨p=q)->Wll H p:=λp hp=>hp.elim (o.fw.wo p) λe=>⟨a,b,c,by rw [e];exact h3⟩;have wq:∀p,(W p∨p=q)->¬ ∃j,j≠i/\A j p:=λp hp=>hp.elim (λw=>own p (o.eb.wb p w)) λe=>by rw [e];exact ownq
  have o2:EO (λp=>W p∨p=q) (λb=>B b∨b=q) H2 (λj q=>j≠i/\A j q) (ρ.set i (.sh .wl)) σ H:=by
   refine⟨⟨λp hp=>?_,λp hp=>hp.elim (λw=> .inl (o.eb.wb p w)) .inr,λp hp=>?_⟩,⟨λb x _ h=>hH2 b x h,Wl⟩,by rw [Cm,o.len],λj p h=>if_pos ⟨j,h⟩,λj p h=>o.aw j p h.2,λj j' p h h'=>o.inj j j' p h.2 h'.2,λj u h=>?_,λj m w h hm=>?_,λj m h=>?_⟩
   ·rcases hp with hp|hp
    ·obtain⟨xs,e,m⟩:=e0.bl p (.inl hp);exact⟨xs,(hH p (own p hp)).trans e,m⟩
    ·exact⟨.lst _,(hH p (wq p (.inr hp))).trans (by rw [hp];exact h3),trivial⟩
   ·obtain⟨x,y,z,e⟩:=Wl p hp;exact⟨x,y,z,(hH p (wq p hp)).trans e⟩
   ·rcases cU h with ⟨rfl,e,hl⟩|⟨ne,h⟩
    ·cases e;exact⟨_,h1,q,rfl,.inr rfl⟩
    ·obtain⟨v',g1,g2⟩:=o.sh j u h;exact⟨v',g1,DU.wm (λ_=> .inl) u (DU.mono k u g2)⟩
   ·rcases cU h with ⟨rfl,rfl,hl⟩|⟨ne,h⟩
    ·cases hm
    ·obtain⟨p,g1,g3⟩:=o.hd j m w h hm;exact⟨p,g1,w.at_ (w.wm (λ_=> .inl) (w.mono k (λ_ _=>rfl) g3)) (aHh ne)⟩
   ·rcases cU h with ⟨rfl,rfl,hl⟩|⟨ne,h⟩
    ·rfl
    ·exact o.nb j m h
  have keep:∀b x,H0 b=some x->H b=some x->H2 b=some x:=λb x h0 h=>(hH b λ⟨j,_,e⟩=>by rw [o.an j b e]at h0;cases h0).trans h;refine f o2 h ⟨λ_ z=>z.elim,λ_ z=>z.elim,λ_ z=>z.elim,λ{s v Hf} fw r hs=>?_⟩;have fW:Fw W H0 Hf:=⟨λb x w h0=>fw.fr b x (λz=>z.elim w λe=>by rw [e,nq]at h0;cases h0) (keep b x h0 (o.fw.fr b x w h0)),λp hp=>fw.wo p (.inl hp)⟩;have kb:∀b x,¬(B b∨b=q)->Hf b=some x->¬B b/\Hf b=some x:=λb x n h=>⟨λz=>n (.inl z),h⟩;refine j.rt fW ?_ hs.2;match s,r,hs.1 with
  | .sh u,r,n=>exact DU.nw u n (DU.mono kb u r)
  | .ow l,⟨p',ys,e1,e2,e3,e4⟩,n=>
   refine⟨p',ys,e1,?_,e3,DUs.nw l n (DUs.mono (λb x n h=>⟨λz=>n (z.elim (λz=> .inl (.inl z)) .inr),h⟩) l e4)⟩;cases z:H0 p' with
   |none=>rfl
   |some x=>
    by_cases w:W p'
    ·obtain⟨_,_,_,y⟩:=o2.eb.wo p' (.inl w);rw [y]at e2;cases e2
    ·rw [keep p' x z (o.fw.fr p' x w z)]at e2;cases e2
 ·exact h.elim⟩
theorem oN {f:U->(Option U->Prop)->Prop} {R:List U->Prop} (P:U->Prop):∀{l acc:List U},(∀u∈l,∀k:Option U->Prop,(∀x,P x->k (some x))->f u k)->(∀xs:List U,xs.length=l.length->(∀x∈xs,P x)->R (acc++xs))->gD f l acc R
 | [],acc,_,r=>by
  have:=r [] rfl nofun
  rw [Bg]at this;exact this
 |u::l,acc,hf,r=>hf u Ae _ λx hx=>oN P (λy hy=>hf y (Ad _ hy)) λxs el hp=>by
  rw [Bi];exact r (x::xs) (by rw [Ah,Ah,el]) λy hy=>by
   rcases List.mem_cons.mp hy with rfl|hy
   ·exact hx
   ·exact hp y hy
def aW4:List U->(Sl->Prop)->Prop
 | [.v (.int i)],R=>i.natAbs.log2<1920/\R (.sh (.s (tx (itx i))))
 |_,_=>False
def aD4:CB aSv aW4:=λ{W B H us vs R Q} e d h q=>by
 unfold aW4 at h;split at h
 ·obtain⟨x,rfl,dd⟩:=DBs.one d;exact⟨_,by rw [dd.int],h.1,q _ _ _ h.2 e.refl ⟨rfl,rfl⟩⟩
 ·exact h.elim
def aBo (ls:List (List Nat)):List U:=ls.map λl=> .s (tx l)
def DUs.strs {W B:Addr->Prop} {H:Hp}:∀{ls:List (List Nat)} {xs:List V},DUs W B H (aBo ls) xs->xs=ls.map λl=>V.str (tx l)
 | [],_,h=>h
 |_::_,_,⟨x,r,e,d,t⟩=>by rw [e,d.1,DUs.strs t];rfl
def aX3 (a:TV) (b:TVa):TV:=λρ R=>a ρ λs=>∃sep:List Nat,s.rd= .s (tx sep)/\b ρ λus=>∃ls:List (List Nat),us=[.ls (aBo ls)]/\(ls.map Cg).sum+ls.length*sep.length<=100000/\R (.sh (.s (tx (glu sep ls))))
def aR5 {o a:Expr} {apos cpos:Pos} {F:TV} {G:TVa} (ho:VE X o F) (ha:VB X [a] G) (hbase:attributeBase o "join" X.env (eval o X.env)=eval o X.env:=by rfl)
  (hfew:((backTo cpos (starEach [a] X.env)).all (λx=> !x.1) && (backToKw cpos (keywordEach [] X.env)).all (λx=>x.1.isSome)
   && decide ([a].length+([]:List Keyword).length+(if([]:List Keyword).isEmpty then 0 else 1)<30))=true:=by rfl)
  (hline:(apos.endLine==cpos.line)=true:=by rfl) (hs:starEach [a] X.env=(false,eval a X.env)::starEach [] X.env:=by rfl) (hplain:(backTo cpos (starEach [] X.env)).any (·.1)=false:=by rfl):VE X (.Call (.Attribute o "join" apos) [a] [] cpos) (aX3 F G):=
 let⟨_,p,f⟩:=ho;let⟨_,p',f'⟩:=ha;⟨_,xT Mn PySem.F.slot_str_join PySem.F.type_str_join aQh p p' hbase hfew hline hs hplain,λ{W B ρ σ H R Q} e h q=>f e h λs v H1 h1 w1 r1=>by
  have d1:=r1.db e.eb;obtain⟨sep,e1,h1⟩:=h1;rw [e1]at d1;obtain rfl:=d1.fl.1;refine⟨rfl,f' (e.to w1) h1 λus vs H2 ⟨ls,e2,hz,h2⟩ w2 d2=>?_⟩;subst e2;obtain⟨x,rfl,dd⟩:=DBs.one d2;obtain⟨p,zs,rfl,_,hp,ds⟩:=dd.ls ((e.to w1).to w2).eb;rw [ds.strs]at hp;exact⟨sep,p,ls,rfl,rfl,hp,hz,q _ _ _ h2 (w1.trans w2) ⟨rfl,rfl⟩⟩⟩
def aYu (i j:Nat) (F:TV):TVS:=λE ρ=>match (ρ[j]? :Option Sl)with
 |some (.ow l)=>F ρ λs=>∃(n:Nat) (u:U),s.rd= .n (n:Int)/\l[n]? =some u/\l.length<10000/\E.nx ((ρ.set j (.ow (l.eraseIdx n))).set i (.sh u))
 |_=>False
def DUs.erase {W B:Addr->Prop} {H:Hp}:∀{l:List U} {xs:List V} (n:Nat),DUs W B H l xs->DUs W B H (l.eraseIdx n) (xs.eraseIdx n)
 | [],_,_,h=>by rw [show _=[]from h];exact rfl
 |_::_,_,0,⟨x,r,e,_,t⟩=>by rw [e];exact t
 |_::_,_,n+1,⟨x,r,e,h,t⟩=>by rw [e];exact⟨x,_,rfl,h,DUs.erase n t⟩
def aHq {y x:Str} {py p' apos cpos pos:Pos} {F:TV} (j:Nat) (hNd:X.N.Nodup) (ha:VE X a F) (hi:X.N[i]? =some y:=by rfl) (hy:Loc X.env.scope y:=by first|exact Bu rfl|exact Bz rfl) (hf:X.fn y=true∨X.env.scope.names.lookup y=some .local:=by first|exact .inl rfl|exact .inr rfl|assumption)
  (hN:X.N[j]? =some x:=by rfl) (hv:Vis X.env.scope x:=by first|exact Bu rfl|exact Bz (Bu rfl)|exact Bz (Bz rfl)) (hd:(x==("__debug__":Str))=false:=by decide) (hcd:(x==("__classdict__":Str))=false:=by decide)
  (hbase:attributeBase (.Name x p') "pop" X.env (eval (.Name x p') X.env)=eval (.Name x p') X.env:=by rfl)
  (hfew:((backTo cpos (starEach [a] X.env)).all (λx=> !x.1) && (backToKw cpos (keywordEach [] X.env)).all (λx=>x.1.isSome)
   && decide ([a].length+([]:List Keyword).length+(if([]:List Keyword).isEmpty then 0 else 1)<30))=true:=by rfl)
  (hline:(apos.endLine==cpos.line)=true:=by rfl) (hs:starEach [a] X.env=(false,eval a X.env)::starEach [] X.env:=by rfl) (hplain:(backTo cpos (starEach [] X.env)).any (·.1)=false:=by rfl)
  (hsw:swapsWith (.Call (.Attribute (.Name x p') "pop" apos) [a] [] cpos) (some (.Name y py)) pos.line X.env=pure false:=by rfl):
  VS X (.Assign [.Name y py] (.Call (.Attribute (.Name x p') "pop" apos) [a] [] cpos) pos) (aYu i j F):=
 let⟨_,p,f⟩:=ha;⟨_,gW hNd hi hy (xT Ec PySem.F.slot_list_pop PySem.F.type_list_pop aN9 (lD hN hv hd hcd) (aN p aZ hs) hbase hfew hline hs hplain) hsw hf,λ{W B H0 A ρ σ H E D} o h jj=>by
  unfold aYu at h;split at h
  ·rename_i l hl;obtain⟨q,xs,h1,h2,h3,h4⟩:=o.ow j l hl;refine⟨_,h1,.inl ⟨rfl,_,SqL.of h3⟩,f o.ee h λs v H1 h5 w r=>?_⟩;obtain⟨n,u,e1,e2,e3,h6⟩:=h5;have d:=r.db o.ee.eb;rw [e1]at d;have o1:=o.to w;obtain⟨q',ys,g1,g2,g3,g4⟩:=o1.ow j l hl;rw [h1]at g1;cases g1;obtain⟨z,hz,dz⟩:=g4.get e2;have hn:n<ys.length:=(List.getElem?_eq_some_iff.mp hz).1;have ll:=g4.length;have o2:=o1.own (l':=l.eraseIdx n) (xs':=ys.eraseIdx n) h1 h2 (g4.erase n);refine⟨q,ys,n,n,z,rfl,by rw [d.int],g3,by omega,by omega,Tc (by omega) (by omega),hz,jj.nx (o2.setSh (i:=i) (DU.mono (λb x nb h=>⟨nb,(aM (λe:b=q=>nb (by rw [e];exact .inr ⟨j,(h2 q).mpr rfl⟩))).trans h⟩) u dz)) h6⟩
  ·exact h.elim⟩
def aWu (C:TVc) (b:TVS):TVS:=λE ρ=>∃I:Nat->EV->Prop,(∃m,I m ρ)/\∀m ρ,I m ρ->C ρ λc=>(c=true->b {E with nx:=λρ'=>∃m',m'<m/\I m' ρ',ct:=λρ'=>∃m',m'<m/\I m' ρ',bk:=E.nx} ρ)/\(c=false->E.nx ρ)
def aGm {c:Expr} {C:TVc} {b:TVS} (hp:PassesOwn (model X.prog X.w) X.A X.env X.xe) (hc:VC X c C) (hb:VSs X body b):VS X (.While c body [] pos) (aWu C b):=
 let⟨_,p,f⟩:=hc;let⟨_,p',f'⟩:=hb;⟨_,uV hp p p',λ{W B H0 A ρ σ H E D} o h j=>by
  obtain⟨I,⟨m0,i0⟩,turn⟩:=h;refine⟨λm σ H=>∃A ρ,EO W B H0 A ρ σ H/\I m ρ,⟨m0,A,ρ,o,i0⟩,?_⟩;rintro m σ H ⟨A,ρ,o,hi⟩;refine f o.ee (turn m ρ hi) λc H1 h1 w=>?_;cases c with
  |true=>exact aGn ⟨λσ H=>∃m',m'<m/\∃A ρ,EO W B H0 A ρ σ H/\I m' ρ,λσ' H' z=>z,f' (o.to w) (h1.1 rfl) ⟨λo2 ⟨m',l,i⟩=>⟨m',l,_,_,o2,i⟩,λo2 h2=>j.nx o2 h2,λo2 ⟨m',l,i⟩=>⟨m',l,_,_,o2,i⟩,j.rt⟩⟩
  |false=>exact qP (j.nx (o.to w) (h1.2 rfl))⟩
inductive aP6 (K:Ac) (xs:List V) (H:Hp) (Q:VK):Prop
 |mk (p:Addr) (ns:List Int) (q0_:xs=[.ref p]) (q1_:SqL K H p (ns.map V.int)) (q2_:ns≠[]) (q3_:∀m:Int,m∈ns->(∀a∈ns,a<=m)->Q (.int m) H):aP6 K xs H Q
def aSy (K:Ac):List V->Hp->VK->Prop:=λxs H Q=>aP6 K xs H Q
def aK6 (hc:X.calm=true):eF X (.builtin "max") (aSy X.K):=by
 intro pins s σ H xs us Q I r h;obtain⟨p,ns,rfl,hq,hne,q⟩:=h;obtain⟨u,rfl,ru⟩:=vals1 r;cases ru;obtain⟨its,rv,pl,hz⟩:=I.list hq;have hi:IntsAre its ns:=intsAre_of rv;obtain⟨ys,e⟩:=hi.allInts.items;have hns:ns=ys.toList.map (·.1):=by
  rw [<-hi.numsOf, <-Pn, <-e]
 have hsz:0<ys.size:=by
  have h3:0<ns.length:=List.length_pos_iff.mpr hne;rw [hns,Ab,As]at h3;exact h3
 have hl:=pl.isList;rw [e]at hl;refine max_intList (I.ok.hd hc) hl hsz λv h' tk hv hk=>?_;obtain⟨t,rfl⟩:=Rj hv;obtain⟨h1,h2⟩:=argBest_gt (numAt ys) (ys.size-1);refine⟨.int _,H,I.kept (t':=tk) hk,⟨t,rfl⟩,q _ ?_ λa ha=>?_⟩
 ·rw [hns,Po];exact getD_mem (by rw [Ab,As];omega)
 ·rw [hns]at ha;obtain⟨j,hj,rfl⟩:=mem_getD ha;rw [Ab,As]at hj;rw [<-Po];exact h2 j (by omega)
inductive aNd (us:List U) (R:(Sl->Prop)):Prop
 |mk (ns:List Int) (q0_:us=[.ls (ns.map U.n)]) (q1_:ns≠[]) (q2_:∀m:Int,m∈ns->(∀a∈ns,a<=m)->R (.sh (.n m))):aNd us R
def aXg:List U->(Sl->Prop)->Prop:=λus R=>aNd us R
def aSd {K:Ac}:CB (aSy K) aXg:=λ{W B H us vs R Q} e d ⟨ns,eu,hn,h⟩ q=>by
 subst eu;obtain⟨x,rfl,dd⟩:=DBs.one d;obtain⟨p,xs,rfl,_,hp,ds⟩:=dd.ls e;rw [ds.ints]at hp;exact⟨p,ns,rfl,SqL.of hp,hn,λm h1 h2=>q _ _ _ (h m h1 h2) e.refl ⟨rfl,rfl⟩⟩
section
variable {W B:Addr->Prop} {H H':Hp} {ρ ρ':EV} {σ:St}
end
abbrev zk (ns:List Str) (xs:List V):List (Key×V):=(ns.map Ct).zip xs
def aC4 {k:Str} (l:ns.length=xs.length) (h:k∉ns):putK (zk ns xs) (Ct k) v=zk (ns++[k]) (xs++[v]):=by
 unfold putK zk;rw [if_neg,Ay,Lm (by rw [Ab];exact l)]
 ·rfl
 ·intro z;obtain⟨x,hx,e⟩:=List.any_eq_true.mp z;have e:=of_decide_eq_true e;have h2:=(Ho (show(x.1,x.2)∈_ from hx)).1;rw [e]at h2;obtain⟨n,hn,en⟩:=List.mem_map.mp h2;cases en;exact h hn
def aO7 {k:Str} {v v':V} (l:ns.length=xs.length) (h:k∉ns):putK (zk (ns++[k]) (xs++[v])) (Ct k) v'=zk (ns++[k]) (xs++[v']):=by
 unfold putK zk;rw [Ay,Lm (by rw [Ab];exact l),Lm (by rw [Ab];exact l)];have hk:∀x∈(ns.map Ct:List Key).zip xs,¬x.1=Ct k:=λx hx e=>by
  have h2:=(Ho (show(x.1,x.2)∈_ from hx)).1;rw [e]at h2;obtain⟨n,hn,en⟩:=List.mem_map.mp h2;cases en;exact h hn
 rw [if_pos]
 ·rw [Ay];congr 1
  ·refine(Ju λx hx=>?_).trans (Ve _);rw [if_neg (hk x hx)];rfl
  ·simp
 ·rw [List.any_append];simp
def aAn {k:Str} (l:ns.length=xs.length) (h:k∉ns):mR (zk (ns++[k]) (xs++[v])) (Ct k)=some v:=by
 induction ns generalizing xs with
 |nil=>
  cases xs with
  |nil=>exact oW rfl
  |cons _ _=>cases l
 |cons n ns ih=>
  cases xs with
  |nil=>cases l
  |cons x xs=>
   show mR ((Ct n,x)::zk (ns++[k]) (xs++[v])) _=_;rw [oH (λz=>h (by cases z;exact Ae))];exact ih (Ez l) λz=>h (Ad _ z)
def dD (P:Program) (w:World) (a:Addr) (xs:List (Tke×Addr×Value)) (h:Heap):Prop:=(a==sysModules)=false/\∃o es ep,h.get? a=some o/\o.ExactDict/\o.data= .dict es ep/\es.toList=xs.map (entryOfKey (dZ (intKind P w)))/\(xs.map (·.1)).Nodup
def dD.stay {w:World} {a:Addr} {xs:List (Tke×Addr×Value)} (h1 h2:Heap) (p:dD P w a xs h1) (k:∀o,h1.get? a=some o->h2.get? a=some o):dD P w a xs h2:=let⟨y,o,es,ep,e,c⟩:=p;⟨y,o,es,ep,k _ e,c⟩
inductive PdR (W B:Addr->Prop) (H:Hp):List (Tke×U)->List (Tke×Addr×Value)->Prop
 |nil:PdR W B H [] []
 |cons {k:Tke} {u:U} {l:List (Tke×U)} {r:List (Tke×Addr×Value)} {c:Addr} {x:Value} {v:V}:DU W B H (tkU k) (.ref c)->RelV v x->DU W B H u v->PdR W B H l r->PdR W B H ((k,u)::l) ((k,c,x)::r)
def wA:List (Tke×U)->Tke->Option U
 | [],_=>none
 |p::l,k=>if p.1=k then some p.2 else wA l k
def aEi (l:List (Tke×U)) (k:Tke) (u:U):List (Tke×U):=if(wA l k).isSome then l.map (λp=>if p.1=k then(p.1,u)else p)else l++[(k,u)]
section
variable {l:List (Tke×U)} {b:Addr}
variable {W W' B B':Addr->Prop} {H H':Hp}
def PdR.mono {xs:List (Tke×Addr×Value)} (k:∀b o,¬B b->H b=some o->¬B' b/\H' b=some o) (h:PdR W B H l xs):PdR W B' H' l xs:=by
 induction h with
 |nil=>exact .nil
 |cons d rv dv t ih=>exact .cons (DU.mono k _ d) rv (DU.mono k _ dv) ih
def PdR.wm {xs:List (Tke×Addr×Value)} (k:∀p,W p->W' p) (h:PdR W B H l xs):PdR W' B H l xs:=by
 induction h with
 |nil=>exact .nil
 |cons d rv dv t ih=>exact .cons (DU.wm k _ d) rv (DU.wm k _ dv) ih
def PdR.keys {xs:List (Tke×Addr×Value)} (h:PdR W B H l xs):xs.map (·.1)=l.map (·.1)/\∀x∈xs,DU W B H (tkU x.1) (.ref x.2.1):=by
 induction h with
 |nil=>exact⟨rfl,nofun⟩
 |cons d rv dv t ih=>exact⟨congrArg (_::·) ih.1,λx hx=>(List.mem_cons.mp hx).elim (λz=>z▸d) (ih.2 x)⟩
def PdR.len {xs:List (Tke×Addr×Value)} (h:PdR W B H l xs):xs.length=l.length:=by
 have:=congrArg Cg h.keys.1;simpa using this
def PdR.val (k:Tke) {xs:List (Tke×Addr×Value)} (h:PdR W B H l xs):(wA l k=none/\atKey xs k=none)∨∃u a r v,wA l k=some u/\atKey xs k=some (a,r)/\RelV v r/\DU W B H u v:=by
 induction h with
 |nil=>exact .inl ⟨rfl,rfl⟩
 |@cons k' u l r c x v d rv dv t ih=>
  by_cases z:k'=k
  ·exact .inr ⟨u,c,x,v,if_pos z,by simp [atKey,Dc,z],rv,dv⟩
  ·rw [show wA ((k',u)::l) k=wA l k from if_neg z,show atKey ((k',c,x)::r) k=atKey r k by simp [atKey,Dc,z]];exact ih
def PdR.snoc {k:Tke} {u:U} {x:Value} {xs:List (Tke×Addr×Value)} (d:DU W B H (tkU k) (.ref b)) (rv:RelV v x) (dv:DU W B H u v) (h:PdR W B H l xs):PdR W B H (l++[(k,u)]) (xs++[(k,b,x)]):=by
 induction h with
 |nil=>exact .cons d rv dv .nil
 |cons d1 r1 d2 t ih=>exact .cons d1 r1 d2 ih
def PdR.repl {k:Tke} {u:U} {x:Value} {xs:List (Tke×Addr×Value)} (rv:RelV v x) (dv:DU W B H u v) (h:PdR W B H l xs):PdR W B H (l.map λp=>if p.1=k then(p.1,u)else p) (xs.map (putAt k x)):=by
 induction h with
 |nil=>exact .nil
 |@cons k' u' l r c y v' d r1 d2 t ih=>
  rw [Aw,Aw];unfold putAt;by_cases z:k'=k
  ·rw [if_pos z,if_pos z];exact .cons d rv dv ih
  ·rw [if_neg z,if_neg z];exact .cons d r1 d2 ih
def PdR.put {k:Tke} {u:U} {x:Value} {xs:List (Tke×Addr×Value)} (h:PdR W B H l xs) (d:DU W B H (tkU k) (.ref b)) (rv:RelV v x) (dv:DU W B H u v):PdR W B H (aEi l k u) (storedH xs k b x):=by
 unfold aEi storedH;rcases h.val k with ⟨e1,e2⟩|⟨_,_,_,_,e1,e2,_⟩
 ·rw [e1,e2];exact PdR.snoc d rv dv h
 ·rw [e1,e2];exact PdR.repl rv dv h
def aAh {k:Tke} (d:DU W B H (tkU k) y):∃b,y= .ref b/\PKy H (k,b):=by
 obtain⟨a,ys,rfl,nb,ha,y1,_,rfl,f1,y2,r2,rfl,⟨q,zs,rfl,nq,hq,dz⟩,e3⟩:=d;obtain rfl:r2=[]:=e3;rw [f1.1]at ha;exact⟨a,rfl,q,ha,by rw [dz.ints]at hq;exact hq⟩
def aHl {k:Tke} (d:DU W B H (tkU k) (.ref b)):PKy H (k,b):=by
 obtain⟨_,e,h⟩:=aAh d;cases e;exact h
end
def pdO (P:Program) (w:World) (kvs:List (Tke×U)):Own:=⟨λW B S H p=>(∀b,S b↔b=p)/\∃xs,H p=some (.ext (dD P w p xs))/\PdR W B H kvs xs,λk e ⟨s,xs,h,r⟩=>⟨s,xs,(e _ ((s _).mpr rfl)).trans h,r.mono k⟩,λk ⟨s,xs,h,r⟩=>⟨s,xs,h,r.wm k⟩,λ⟨s,_,h,_⟩ b hb=>by rw [(s b).mp hb];exact⟨_,h,trivial⟩,λ⟨s,_⟩=>(s _).mpr rfl⟩
def aYe (P:Program) (w:World) (s:Sl) (kvs:List (Tke×U)):Prop:=s= .bo (pdO P w kvs)∨s= .oo (pdO P w kvs)∨s= .sh (.op (pdO P w kvs).fz)
def RO.pd {W B:Addr->Prop} {H H':Hp} {w:World} {s:Sl} {kvs:List (Tke×U)} (h:aYe P w s kvs) (r:RO W B H H' s v):∃p xs,v= .ref p/\H' p=some (.ext (dD P w p xs))/\PdR W B H' kvs xs:=by
 rcases h with rfl|rfl|rfl
 ·obtain⟨p,S,e,_,_,xs,h⟩:=r;exact⟨p,xs,e,h⟩
 ·obtain⟨p,S,e,_,h⟩:=r;obtain⟨_,xs,h⟩:=Own.less _ h;exact⟨p,xs,e,h⟩
 ·obtain⟨p,S,e,_,_,xs,h⟩:=r;exact⟨p,xs,e,h⟩
def aDp {w:World} {H:Hp} {h:Heap} {a:Addr} {xs:List (Tke×Addr×Value)} (ok:HOk P w H h) (e:H a=some (.ext (dD P w a xs))) (k:∀x∈xs,PKy H (x.1,x.2.1)):(a==sysModules)=false/\h.DictOfH (dZ (intKind P w)) a xs:=by
 obtain⟨⟨y,o,es,ep,h1,h2,h3,h4,h5⟩,_,_⟩:=(show cL P w H h a (.ext (dD P w a xs))from ok a _ e);exact⟨y,o,es,ep,h1,h2,h3,h4,λx hx=>pF (x:=(x.1,x.2.1)) ok (k x hx),h5⟩
def tPg (P:Program) (w:World) (td ty:TE):TE:=λσ H Q=>td σ H λx H1=>ty σ H1 λy H2=>∃a b xs k r c v,x= .ref a/\y= .ref b/\H2 a=some (.ext (dD P w a xs))/\(∀x∈xs,PKy H2 (x.1,x.2.1))/\PKy H2 (k,b)/\atKey xs k=some (c,r)/\RelV v r/\Q v H2
def sPp (P:Program) (w:World) (td ty tv:TE):TS:=λD σ H=>tv σ H λv H1=>td σ H1 λx H2=>ty σ H2 λy H3=>∃a b xs k,x= .ref a/\y= .ref b/\H3 a=some (.ext (dD P w a xs))/\(∀x∈xs,PKy H3 (x.1,x.2.1))/\PKy H3 (k,b)/\xs.length<sizeLine/\∀r,RelV v r->D.nx σ (upd H3 a (.ext (dD P w a (storedH xs k b r))))
inductive aJ6 (P:Program) (w:World) (ys:List V) (H:Hp) (Q:VK):Prop
 |mk (p:Addr) (xs:List (Tke×Addr×Value)) (q0_:ys=[.ref p]) (q1_:H p=some (.ext (dD P w p xs))) (q2_:(∀x∈xs,PKy H (x.1,x.2.1))) (q3_:xs.length<64) (q4_:∀(l:Addr) (zs:List (Tke×Addr)),H l=none->zs.Perm (xs.map λx=>(x.1,x.2.1))->zs.Pairwise (λx y=>mO x.1 y.1=true)->Q (.ref l) (upd H l (.lst (zs.map λx=>V.ref x.2)))):aJ6 P w ys H Q
def aU7 (P:Program) (w:World):List V->Hp->VK->Prop:=λys H Q=>aJ6 P w ys H Q
variable {o i value:Expr} {pos pos':Pos} {td ty tv:TE}
def aQ1 {pins:List (Addr×Obj)} {σ:St} {H:Hp} {s:Shared} {a:Addr} {xs:List (Tke×Addr×Value)} (I:Inv X pins σ H s) (e:H a=some (.ext (dD X.prog X.w a xs))):s.TypeIs (.ref a) "dict":=by
 obtain⟨⟨y,o,es,ep,h1,h2,_⟩,_,_⟩:=(show cL X.prog X.w H s.heap a (.ext (dD X.prog X.w a xs))from I.hok a _ e);exact⟨o,h1,h2.1⟩
def aTn (hu:X.A.units+2<cLine) (ho:PE X o td) (hi:PE X i ty) (hs:aH6 i):PE X (.Subscript o i pos) (tPg X.prog X.w td ty):=by
 intro pins s σ H Q I h;refine aJh PySem.F.slot_dict_getitem.lookup hs (thn (ho pins s σ H _ I h) λu s1 ⟨x,H1,I1,rx,q1⟩=>thn (hi pins s1 σ H1 _ I1 q1) λiv s2 ⟨y,H2,I2,ry,a,b,xs,k,r,c,v,ex,ey,e,ks,eb,l,rv,q2⟩=>?_);subst ex ey;obtain rfl:u=An a:=rx;obtain rfl:iv=An b:=ry;refine⟨aQ1 I2 e,Rz (show X.A.in1.units+1<cLine from hu) (pF (x:=(k,b)) I2.hok eb) (aDp I2.hok e ks).2 l ?_⟩;exact⟨v,H2,I2.tok _,rv,q2⟩
def aY7 (hu:X.A.units+2<cLine) (ho:PE X o td) (hi:PE X i ty) (hv:PE X value tv) (hs:swapsWith value (some (.Subscript o i pos')) pos.line X.env=pure false):PS X (.Assign [.Subscript o i pos'] value pos) (sPp X.prog X.w td ty tv):=by
 intro pins s σ H D I h;refine Qa (thn (hv pins s σ H _ I h) λr s1 ⟨v,H1,I1,rv,q1⟩=>thn (ho pins s1 σ H1 _ I1 q1) λu s2 ⟨x,H2,I2,rx,q2⟩=>thn (hi pins s2 σ H2 _ I2 q2) λiv s3 ⟨y,H3,I3,ry,a,b,xs,k,ex,ey,e,ks,eb,hl,q3⟩=>?_) hs;subst ex ey;obtain rfl:u=An a:=rx;obtain rfl:iv=An b:=ry;obtain⟨lo,dd⟩:=aDp I3.hok e ks;refine Ry (hsz:=Eh hl) (show X.A.in1.units+1<cLine from hu) (pF (x:=(k,b)) I3.hok eb) dd λh' dd' hs=>?_;obtain⟨q,es,ep,hq,h2,h3,h4,_,h5⟩:=dd';have ok:cL X.prog X.w (upd H3 a (.ext (dD X.prog X.w a (storedH xs k b r)))) h' a (.ext (dD X.prog X.w a (storedH xs k b r))):=⟨⟨lo,q,es,ep,hq,h2,h3,h4,h5⟩,⟨q,hq⟩,λh1 h2 p k=>dD.stay h1 h2 p k⟩;exact⟨σ,_,yK I3 (by rw [e];exact En) hs ⟨q,hq⟩ ok,q3 r rv⟩
def aHz (hu:X.A.units+40<cLine) (hc:X.calm=true):eF X (.builtin "sorted") (aU7 X.prog X.w):=by
 intro pins s σ H ys us Q I r h;obtain⟨p,xs,rfl,hp,hk,h64,q⟩:=h;obtain⟨u,rfl,ru⟩:=vals1 r;cases ru;obtain⟨lo,o,es,ep,h1,h2,h3,h4,h5,h6⟩:=aDp I.hok hp hk;have el:es.size=xs.length:=by rw [<-As,h4,Ab]
 refine Hu Ri Qn Qo (Qq _) ?_;unfold Builtin.«sorted»;refine Aa (m:=checkCount "sorted" 1 1 _) (Af ?_);refine Aa (gather (A:=X.A.in1) (aQw (es:=es) (ep:=ep) lo) (I.ok.hd hc) ⟨o,h1,h2,h3⟩ (by rw [el,Cr];omega) λh' tk acc hkp hgt hacc=>?_);have ea:acc.toList=(xs.map λx=>(x.1,x.2.1)).map λx=>An x.2:=by
  refine Km λj=>?_;rw [Bk,Az];cases hj:xs[j]? with
  |none=>
   have:xs.length<=j:=List.getElem?_eq_none_iff.mp hj;exact Co (by rw [As,hacc.1,el];exact this)
  |some x=>
   have hlt:j<acc.size:=by rw [hacc.1,el];exact(List.getElem?_eq_some_iff.mp hj).1
   obtain⟨e,e1,e2⟩:=hacc.2 j _ (Bc hlt);have e3:es.toList[j]? =some e:=by rw [Bj];exact e1
   rw [h4,Az,hj]at e3;cases e3;rw [Bj,Bc hlt,e2];rfl
 rw [ea];have pl:((xs.map λx=>(x.1,x.2.1)):List (Tke×Addr)).length=xs.length:=Ab ..;generalize hps:((xs.map λx=>(x.1,x.2.1)):List (Tke×Addr))=ps at pl q;have nd:(ps.map (·.1)).Nodup:=by rw [<-hps,Bk];exact h6
 refine Aa (Lf ?_ (by rw [Ab,Cr];omega));have hoL:(h'.push (seqObj "list" (ps.map λx=>An x.2).toArray 0)).get? h'.objs.size=some (seqObj "list" (ps.map λx=>An x.2).toArray 0):=Ar _ rfl;have O:=aJy (prog:=X.prog) (w:=X.w) λk v hv=>by obtain⟨t,rfl⟩:=Ds hv;exact⟨_,_,rfl⟩
 have T1:aAa (dZ (intKind X.prog X.w)) (λ_=>True) (h'.push (seqObj "list" (ps.map λx=>An x.2).toArray 0)) ps:=λx hx=>by
  rw [<-hps]at hx;obtain⟨y,hy,rfl⟩:=List.mem_map.mp hx;exact⟨trivial,O.set.mono (pF I.hok (hk y hy)) λb o _ e=>Ai _ (hkp b o e)⟩
 refine Aa (By (Dg slot_list_sort ⟨_,hoL,rfl⟩ entry_list_sort (qW O (by first|omega|(show X.A.units+1+20<cLine;omega)|(show X.A.units+2+20<cLine;omega)|(show X.A.units+3+20<cLine;omega)) hoL T1 nd (by omega) λzs py hy=>⟨_,rfl,?_⟩) (Oo _)));refine Af ⟨_,rfl,?_⟩;obtain⟨e,he⟩:=Pk (out:=(zs.map λx=>An x.2).toArray) hoL;have keep:∀b o,s.heap.get? b=some o->(sortedHeap (h'.push (seqObj "list" (ps.map λx=>An x.2).toArray 0)) h'.objs.size (ps.map λx=>An x.2) (zs.map λx=>An x.2).toArray).get? b=some o:=λb o q=>by
  have hb:b<h'.objs.size:=Ap (hkp b o q);rw [Ol (Ax hb) (by rw [Dk];exact Ei hb)];exact Ai _ (hkp b o q)
 have hge:s.heap.objs.size<=h'.objs.size:=Eh hgt;refine⟨.ref h'.objs.size,_,I.laid (t':=tk) (o:= .lst (zs.map λx=>V.ref x.2)) keep hge ⟨?_,_,e,tY,he⟩,rfl,q _ zs (I.hok.fresh hge) py hy⟩;rw [Ab,py.length_eq,Cr];omega
def aXh (P:Program) (w:World):TV:=λ_ R=>R (.oo (pdO P w []))
def aV1 (P:Program) (w:World) (a:TV):TV:=λρ R=>a ρ λs=>∃kvs,aYe P w s kvs/\kvs.length<64/\∀ys:List Tke,ys.Perm (kvs.map (·.1))->ys.Pairwise (λx y=>mO x y=true)->R (.ow (ys.map tkU))
def aYs (P:Program) (w:World) (j:Nat) (Fk Fv:TV):TVS:=λE ρ=>Fv ρ λsv=>sv.es λu=>∃kvs,ρ[j]? =some (.oo (pdO P w kvs))/\kvs.length<10000/\Fk ρ λsk=>sk.es λku=>∃k,ku=tkU k/\E.nx (ρ.set j (.oo (pdO P w (aEi kvs k u))))
variable {P:Program}
def aQi (hP:X.prog=P) (hw:X.w=w) {pos:Pos}:VE X (.Dict [] [] pos) (aXh P w):=by
 subst hP hw;refine⟨λσ H Q=>∀p,H p=none->Q (.ref p) (upd H p (.ext (dD X.prog X.w p []))),λpins s σ H Q I h=>?_,λe h q p n=>q _ _ _ h (e.eb.new n) ⟨p,(·=p),rfl,λb hb=>by rw [hb];exact n,λ_=>Mh,[],aJ,.nil⟩⟩;have hp:dD X.prog X.w s.heap.objs.size [] (s.heap.push {cls:= .type "dict",data:= .dict #[]}):=⟨beq_eq_false_iff_ne.mpr (Cy (Ax I.big)),_, #[],0,Ar _ rfl,⟨rfl,rfl,rfl⟩,rfl,rfl,Hx⟩;have ok:cL X.prog X.w (upd H s.heap.objs.size (.ext (dD X.prog X.w s.heap.objs.size []))) (s.heap.push {cls:= .type "dict",data:= .dict #[]}) s.heap.objs.size (.ext (dD X.prog X.w s.heap.objs.size [])):=⟨hp,⟨_,Ar _ rfl⟩,λh1 h2 p k=>dD.stay h1 h2 p k⟩;exact wpAny_Dict_empty ⟨.ref s.heap.objs.size,_,I.laid (a:=s.heap.objs.size) (o:= .ext (dD X.prog X.w s.heap.objs.size [])) (t':=s.toks) (λ_ _ q=>Ai _ q) (Am _) ok,rfl,h _ (I.hok.fresh (Am _))⟩
def aLz {p pos:Pos} {F:TV} (hP:X.prog=P) (hw:X.w=w) (hr:dH k X.A) (hc:X.calm=true) (hm:X.mg "sorted"=none) (ha:VE X a F) (hg:Gl X "sorted":=by rfl) (hs:starEach [a] X.env=(false,eval a X.env)::starEach [] X.env:=by rfl) (hpl:(backTo pos (starEach [] X.env)).any (·.1)=false:=by rfl):VE X (.Call (.Name "sorted" p) [a] [] pos) (aV1 P w F):=by
 subst hP hw;obtain⟨_,p,f⟩:=ha;refine⟨_,gR (aHz (by have:=hr.un;omega) hc) hg hm Rk (aN p aZ hs) (by decide) (by decide) hs hpl,λ{W B ρ σ H R Q} e h q=>f e h λs v H1 h1 w1 r1=>?_⟩;obtain⟨kvs,hs,hl,h2⟩:=h1;obtain⟨a,xs,rfl,g1,g2⟩:=r1.pd hs;have e1:=e.to w1;refine⟨a,xs,rfl,g1,λx hx=>aHl (g2.keys.2 x hx),by rw [g2.len];exact hl,λl zs nl pm pw=>?_⟩;have w3:=e1.eb.new (o:= .lst (zs.map λx=>V.ref x.2)) nl;refine q (.ow ((zs.map (·.1)).map tkU)) _ _ (h2 _ ?_ ?_) (w1.trans w3) (RO.back (s:= .ow _) w1 ⟨l,_,rfl,nl,aJ,aIf λx hx=>?_⟩)
 ·have:=pm.map (·.1);rw [Bk]at this;rw [<-g2.keys.1];exact this
 ·rw [Dt];exact pw
 ·obtain⟨y,hy,rfl⟩:=List.mem_map.mp (pm.mem_iff.mp hx);exact DU.mono (λb o nb h=>⟨λz=>z.elim nb (aQ h nl),(e1.eb.keep w3 b o nb h).2⟩) _ (g2.keys.2 y hy)
def aRo {i value:Expr} {pos pos' p':Pos} {Fk Fv:TV} (j:Nat) (hP:X.prog=P) (hw:X.w=w) (hr:dH k X.A) (hk:VE X i Fk) (hv:VE X value Fv) (hN:X.N[j]? =some x:=by rfl) (hvs:Vis X.env.scope x:=by first|exact Bu rfl|exact Bz (Bu rfl)|exact Bz (Bz rfl)) (hd:(x==("__debug__":Str))=false:=by decide)
  (hcd:(x==("__classdict__":Str))=false:=by decide) (hs:swapsWith value (some (.Subscript (.Name x p') i pos')) pos.line X.env=pure false:=by rfl):VS X (.Assign [.Subscript (.Name x p') i pos'] value pos) (aYs P w j Fk Fv):=by
 subst hP hw;obtain⟨_,p1,f1⟩:=hk;obtain⟨_,p2,f2⟩:=hv;refine⟨_,aY7 (by have:=hr.un;omega) (lD hN hvs hd hcd) p1 p2 hs,λ{W B H0 A ρ σ H E D} o h jj=>f2 o.ee h λsv v H1 h1 w1 r1=>?_⟩;obtain⟨u,⟨kvs,hj,hl,h2⟩,dv⟩:=r1.du o.ee.eb h1;have o1:=o.to w1;obtain⟨q,g1,g2,_⟩:=o1.hd j _ _ hj rfl;refine⟨_,g1,f1 o1.ee h2 λsk y H3 h3 w3 r3=>?_⟩;obtain⟨ku,⟨k,rfl,h4⟩,dk⟩:=r3.du o1.ee.eb h3;have o3:=o1.to w3;obtain⟨q',g4,_,xs,g5,g6⟩:=o3.hd j _ _ hj rfl;rw [g1]at g4;cases g4;obtain⟨b,rfl,kb⟩:=aAh dk;refine⟨q,b,xs,k,rfl,rfl,g5,λx hx=>aHl (g6.keys.2 x hx),kb,by rw [g6.len];exact Hv hl (by decide),λr rv=>jj.nx (o3.chg g1 ((g2 q).mpr rfl) (s':= .oo (pdO X.prog X.w (aEi kvs k u))) rfl rfl ⟨g2,_,aJ,?_⟩) h4⟩;exact PdR.mono (λb y n h=>⟨n,(aM (λz:b=q=>n (by rw [z];exact .inr ⟨j,(g2 q).mpr rfl⟩))).trans h⟩) (g6.put dk rv (DU.mono (o1.ee.eb.keep w3) u dv))
def wL {l:List (Tke×U)} {k:Tke} {u:U}:(aEi l k u).map (·.1)=if(wA l k).isSome then l.map (·.1)else l.map (·.1)++[k]:=by
 unfold aEi;split
 ·rw [Bk];refine Ju λp _=>?_;show(if p.1=k then(p.1,u)else p).1=p.1;split<;>rfl
 ·rw [Ay];rfl
theorem aCe {k:Tke}:∀{l:List (Tke×U)},(wA l k).isSome=true->k∈l.map (·.1)
 | [],h=>by cases h
 |p::l,h=>by
  by_cases e:p.1=k
  ·rw [<-e];exact Ae
  ·rw [show wA (p::l) k=wA l k from if_neg e]at h;exact Ad _ (aCe h)
def aPr {l:List (Tke×U)} {k z:Tke} {u:U}:z∈(aEi l k u).map (·.1)↔z∈l.map (·.1)∨z=k:=by
 rw [wL];split
 ·rename_i h;exact⟨.inl,λy=>y.elim id λy=>y▸aCe h⟩
 ·rw [Gi,Fc]
def aL9 {l:List (Tke×U)} {k:Tke} {u:U}:(aEi l k u).length<=l.length+1:=by
 have:=congrArg Cg (wL (l:=l) (k:=k) (u:=u));rw [Ab]at this;rw [this];split
 ·rw [Ab];omega
 ·rw [Ag,Ab];exact Am _
theorem aBz {k:Tke}:∀{l:List (Tke×U)},(wA l k).isSome=false->k∉l.map (·.1)
 | [],_,h=>nomatch h
 |p::l,h,z=>by
  by_cases e:p.1=k
  ·rw [show wA (p::l) k=some p.2 from if_pos e]at h;cases h
  ·rw [show wA (p::l) k=wA l k from if_neg e]at h;exact(List.mem_cons.mp z).elim (λy=>e y.symm) (aBz h)
def aSa {l:List (Tke×U)} {k:Tke} {u:U} (h:(l.map (·.1)).Nodup):((aEi l k u).map (·.1)).Nodup:=by
 rw [wL];split
 ·exact h
 ·rename_i n;rw [Ig];exact⟨h,by simp,λa ha b hb e=>aBz (Bool.eq_false_iff.mpr n) (by rw [<-List.mem_singleton.mp hb, <-e];exact ha)⟩
theorem aJw {n:Nat}:∀{l m:List U},U.dts n l->U.dts n m->U.dts n (l++m)
 | [],_,_,h=>h
 |_::_,_,⟨a,b⟩,h=>⟨a,aJw b h⟩
def dkO (ns:List Str) (us:List U):Own:=⟨λW B S H p=>(∀b,S b↔b=p)/\∃xs,H p=some (.dK (zk ns xs))/\ns.length=xs.length/\DUs W B H us xs,λk e ⟨s,xs,h,l,d⟩=>⟨s,xs,(e _ ((s _).mpr rfl)).trans h,l,DUs.mono k us d⟩,λk ⟨s,xs,h,l,d⟩=>⟨s,xs,h,l,DUs.wm k us d⟩,λ⟨s,_,h,_⟩ b hb=>by rw [(s b).mp hb];exact⟨_,h,trivial⟩,λ⟨s,_⟩=>(s _).mpr rfl⟩
def dlO (ns:List Str) (us:List U) (k:Str) (l:List U):Own:=⟨λW B S H p=>∃q xs ys,(∀b,S b↔b=p∨b=q)/\p≠q/\H p=some (.dK (zk (ns++[k]) (xs++[.ref q])))/\ns.length=xs.length/\DUs W B H us xs/\H q=some (.lst ys)/\DUs W B H l ys,
 λkp e h=>by
  obtain⟨q,xs,ys,s,n,h1,h2,h3,h4,h5⟩:=h;exact⟨q,xs,ys,s,n,(e _ ((s _).mpr (.inl rfl))).trans h1,h2,DUs.mono kp us h3,(e _ ((s _).mpr (.inr rfl))).trans h4,DUs.mono kp l h5⟩,λkp h=>by
  obtain⟨q,xs,ys,s,n,h1,h2,h3,h4,h5⟩:=h;exact⟨q,xs,ys,s,n,h1,h2,DUs.wm kp us h3,h4,DUs.wm kp l h5⟩,λh b hb=>by
  obtain⟨q,xs,ys,s,n,h1,h2,h3,h4,h5⟩:=h;rcases (s b).mp hb with rfl|rfl
  ·exact⟨_,h1,trivial⟩
  ·exact⟨_,h4,trivial⟩,λh=>by
  obtain⟨_,_,_,s,_⟩:=h;exact(s _).mpr (.inl rfl)⟩
section
variable {W B:Addr->Prop} {H0 H H1:Hp} {A:Nat->Addr->Prop} {ρ:EV} {σ:St}
def EO.rep (o:EO W B H0 A ρ σ H) {i:Nat} {s:Sl} {w:Own} (hs:s.hold=some w) (hb:s.brd=false) (f:∀b y,¬W b->¬S b->H b=some y->H1 b=some y) (fw:∀p,W p->Wll H1 p) (n:∀b,S b->A i b∨H b=none) (d:w.φ W (λb=>B b∨(∃j,j≠i/\A j b)∨S b) S H1 p) (hg:σ[i]? =some (some (.ref p))):
  EO W B H0 (λj q=>(j=i/\S q)∨(j≠i/\A j q)) (ρ.set i s) σ H1:=by
 have n0:∀b,S b->H0 b=none:=λb hb=>(n b hb).elim (o.an i b) o.fw.none_;have k:∀b y,¬Bx B A b->H b=some y->¬Bx B (λj q=>(j=i/\S q)∨(j≠i/\A j q)) b/\H1 b=some y:=λb y nb h=>by
  have ns:¬S b:=λz=>(n b z).elim (λz=>nb (.inr ⟨i,z⟩)) λz=>by rw [z]at h;cases h
  exact⟨λz=>z.elim (λz=>nb (.inl z)) λ⟨j,z⟩=>z.elim (λz=>ns z.2) λz=>nb (.inr ⟨j,z.2⟩),f b y (λz=>nb (.inl (o.eb.wb b z))) ns h⟩
 have oth:∀{j b},j≠i->A j b->¬S b:=λ{j b} ne h z=>(n b z).elim (λz=>ne (o.inj j i b h z)) (o.awn h);refine⟨o.eb,⟨λb y w h=>f b y w (λz=>by rw [n0 b z]at h;cases h) (o.fw.fr b y w h),fw⟩,by rw [Cm,o.len],λj q h=>h.elim (λh=>n0 q h.2) λh=>o.an j q h.2,λj q h=>?_,λj j' q h h'=>?_,λj u h=>?_,λj m v h hm=>?_,λj m h=>?_⟩
 ·rcases h with ⟨_,h⟩|⟨ne,h⟩
  ·exact w.th d q h
  ·obtain⟨y,h1,h2⟩:=o.aw j q h;exact⟨y,f q y (o.nw h) (oth ne h) h1,h2⟩
 ·rcases h with ⟨e1,e2⟩|⟨ne,h⟩<;>rcases h' with ⟨e3,e4⟩|⟨ne',h'⟩
  ·rw [e1,e3]
  ·exact(oth ne' h' e2).elim
  ·exact(oth ne h e4).elim
  ·exact o.inj j j' q h h'
 ·rcases cU h with ⟨rfl,rfl,hl⟩|⟨ne,h⟩
  ·cases hs
  ·obtain⟨v',h1,h2⟩:=o.sh j u h;exact⟨v',h1,DU.mono k u h2⟩
 ·rcases cU h with ⟨rfl,rfl,hl⟩|⟨ne,h⟩
  ·rw [hs]at hm;cases hm;refine⟨p,hg,w.at_ (w.mono (λb y nb h=>⟨λz=>nb (z.elim .inl λ⟨j,z⟩=> .inr (z.elim (λz=> .inr z.2) λz=> .inl ⟨j,z⟩)),h⟩) (λ_ _=>rfl) d) λb=>⟨λh=>h.elim (λh=>h.2) λh=>absurd rfl h.1,λh=> .inl ⟨rfl,h⟩⟩⟩
  ·obtain⟨q,h1,h3⟩:=o.hd j m v h hm;exact⟨q,h1,v.at_ (v.mono k (λb hb=>let⟨y,hy,_⟩:=v.th h3 b hb;(f b y (o.nw hb) (oth ne hb) hy).trans hy.symm) h3) λb=>⟨λh=>h.elim (λh=>absurd h.1 ne) λh=>h.2,λh=> .inr ⟨ne,h⟩⟩⟩
 ·rcases cU h with ⟨rfl,rfl,hl⟩|⟨ne,h⟩
  ·exact hb
  ·exact o.nb j m h
end
def tPa (ns:List Str) (F:TVa) (trs:List (TE×TE)):Prop:=∀{W B:Addr->Prop} {ρ:EV} {σ:St} {H:Hp} {R:List U->Prop} {Q:List (V×V)->Hp->Prop},EE W B H ρ σ->F ρ R->(∀us vs H',R us->us.length=ns.length->Fw W H H'->DUs W B H' us vs->Q ((ns.map V.str).zip vs) H')->aDw trs σ H Q
def VPs (X:Cx) (pos:Pos) (ks:List (Option Expr)) (vs:List Expr) (ns:List Str) (F:TVa):Prop:=∃trs,PPs X pos ks vs trs/\tPa ns F trs
def aY9 (ns:List Str) (F:TVa):TV:=λρ R=>F ρ λus=>R (.oo (dkO ns us))
theorem aEv:∀{ns as:List Str} {vs xs:List V},as.length=xs.length->ns.length=vs.length->(as++ns).Nodup->qX (zk as xs) (zk ns vs)=zk (as++ns) (xs++vs)
 | [],as,[],xs,_,_,_=>by rw [Bg,Bg];rfl
 |n::ns,as,v::vs,xs,h1,h2,nd=>by
  show qX (putK (zk as xs) (Ct n) v) (zk ns vs)=_;have hn:n∉as:=λz=>(List.nodup_append.mp nd).2.2 n z n Ae rfl;rw [aC4 h1 hn,aEv (by rw [Ag,Ag,h1];rfl) (Ez h2) (by rw [Bi];exact nd),Bi,Bi];rfl
def aXk (i:Nat) (k:Str) (F:TV):TVS:=λE ρ=>F ρ λs=>s.es λu=>∃ns us,ρ[i]? =some (.oo (dkO ns us))/\ns.length<=50/\((k∉ns/\E.nx (ρ.set i (.oo (dkO (ns++[k]) (us++[u])))))∨∃ms ws u0,ns=ms++[k]/\us=ws++[u0]/\ws.length=ms.length/\k∉ms/\E.nx (ρ.set i (.oo (dkO ns (ws++[u])))))
def aUn (i:Nat) (k:Str) (F:TV):TVS:=λE ρ=>F ρ λs=>∃l ns us,s= .ow l/\ρ[i]? =some (.oo (dkO ns us))/\ns.length<=50/\k∉ns/\E.nx (ρ.set i (.oo (dlO ns us k l)))
def aX6 (i:Nat) (k:Str) (F:TV):TVS:=λE ρ=>∃ns us l,ρ[i]? =some (.oo (dlO ns us k l))/\k∉ns/\l.length<10000/\F ρ λs=>s.es λu=>E.nx (ρ.set i (.oo (dlO ns us k (l++[u]))))
def aXu (a:TV) (k:Str):TV:=λρ R=>a ρ λs=>(∃ns us,s= .bo (dkO ns us)/\wH k ns us R)∨∃ns us k' l,s= .bo (dlO ns us k' l)/\wH k ns us R
def vDk (i:Nat) (G:TVS):TVS:=λE ρ=>∃ns us k l,ρ[i]? =some (.oo (dlO ns us k l))/\us.length=ns.length/\G E (ρ.set i (.oo (dkO (ns++[k]) (us++[.ls l]))))
def aZj (i:Nat) (G:TVS):TVS:=λE ρ=>∃ns us,ρ[i]? =some (.oo (dkO ns us))/\G E (ρ.set i (.sh (.dk ns us)))
def aQ7 {W B:Addr->Prop} {H:Hp} {l:List U} {u:U} (h:DUs W B H (l++[u]) xs):∃ys v,xs=ys++[v]/\DUs W B H l ys/\DU W B H u v:=by
 have a:=h.take l.length;have b:=h.drop l.length;rw [Rq]at a;rw [Ru]at b;obtain⟨v,r,e,d,z⟩:=b;rw [show r=[]from z]at e;exact⟨_,v,by rw [<-e,Gz],a,d⟩
def aPn {k k':Str} {v':V} (h:mR (zk ns xs) (Ct k)=some v) (l:ns.length=xs.length):mR (zk (ns++[k']) (xs++[v'])) (Ct k)=some v:=by
 induction ns generalizing xs with
 |nil=>cases h
 |cons n ns ih=>
  cases xs with
  |nil=>cases l
  |cons x xs=>
   show mR ((Ct n,x)::zk (ns++[k']) (xs++[v'])) _=_;have h:mR ((Ct n,x)::zk ns xs) (Ct k)=some v:=h;by_cases e:n=k
   ·subst e;rw [oW rfl]at h⊢;exact h
   ·rw [oH (λz=>e (Nu z))]at h⊢;exact ih h (Ez l)
theorem aIr:∀(ns:List Str) (vs:List V),(ns.map V.str).zip vs=((ns.map Ct:List Key).zip vs).map λkv=>(kV kv.1,kv.2)
 | [],_=>rfl
 |_::_,[]=>rfl
 |_::ns,_::vs=>congrArg _ (aIr ns vs)
def aVx {pos:Pos}:VPs X pos [] [] [] aBh:=⟨_,aQ0,λe h q=>q [] [] _ h rfl e.eb.refl rfl⟩
def vZ {pos:Pos} {k:Str} {j p} {v:Expr} {ks:List (Option Expr)} {vs:List Expr} {F:TV} {G:TVa} (hv:VE X v F) (hr:VPs X pos ks vs ns G):VPs X pos (some (.Constant (.str k) j p)::ks) (v::vs) (k::ns) (qM F G):=by
 obtain⟨_,p1,f1⟩:=hv;obtain⟨_,p2,f2⟩:=hr;refine⟨_,aP9 bY p1 p2,λe h q=>f1 e h λs v H1 h1 w1 r1=>?_⟩;obtain⟨u,h1,d⟩:=r1.du e.eb h1;exact f2 (e.to w1) h1 λus vs H2 h2 l2 w2 d2=>q (u::us) (v::vs) H2 h2 (by rw [Ah,l2];rfl) (w1.trans w2) ⟨v,vs,rfl,DU.mono ((e.to w1).eb.keep w2) u d,d2⟩
def aSi {pos:Pos} {keys:List (Option Expr)} {values:List Expr} {F:TVa} (h:VPs X pos keys values ns F) (nd:ns.Nodup) (nl:ns.length<=15) (hall:keys.all (·.isSome)=true:=by rfl) (hl:keys.length=values.length:=by rfl) (h0:keys≠[]:=by exactλz=>nomatch z) (h15:keys.length<=15:=by decide):VE X (.Dict keys values pos) (aY9 ns F):=by
 obtain⟨_,p,f⟩:=h;refine⟨_,aR3 p hall hl h0 h15,λ{W B ρ σ H R Q} e h q p n=>?_⟩;have e1:=e.plus (x:= .dK []) n;have w0:=e.eb.new (o:= .dK []) n;have nW:¬W p:=λz=>e.eb.nw n (e.eb.wb p z);refine f e1 h λus vs H2 h2 l2 w2 d2=>⟨w2.fr p _ nW aJ,zk ns vs,?_,?_,?_⟩
 ·unfold zk;exact aIr ns vs
 ·unfold zk;rw [Lr,Ab];omega
 ·have lv:=d2.length;rw [show qX [] (zk ns vs)=zk ns vs from aEv (as:=[]) (xs:=[]) rfl (by omega) nd];have w3:Fw W H (upd H2 p (.dK (zk ns vs))):=(w0.trans w2).upd n nW;refine q (.oo (dkO ns us)) _ _ h2 w3 ⟨p,(·=p),rfl,λb hb=>by rw [hb];exact n,λ_=>Mh,vs,aJ,by omega,DUs.mono (λb y nb h=>⟨nb,(aM (λz=>nb (.inr z))).trans h⟩) us d2⟩
def vJ {k:Str} {j pk} {value:Expr} {pos pos' p':Pos} {F:TV} (i:Nat) (hr:dH m X.A) (hv:VE X value F) (hN:X.N[i]? =some x:=by rfl) (hvs:Vis X.env.scope x:=by first|exact Bu rfl|exact Bz (Bu rfl)|exact Bz (Bz rfl)) (hd:(x==("__debug__":Str))=false:=by decide)
  (hcd:(x==("__classdict__":Str))=false:=by decide) (hs:swapsWith value (some (.Subscript (.Name x p') (.Constant (.str k) j pk) pos')) pos.line X.env=pure false:=by rfl):VS X (.Assign [.Subscript (.Name x p') (.Constant (.str k) j pk) pos'] value pos) (aXk i k F):=by
 obtain⟨_,p2,f2⟩:=hv;refine⟨_,aJs (by have:=hr.un;omega) (lD hN hvs hd hcd) bY p2 hs,λ{W B H0 A ρ σ H E D} o h jj=>f2 o.ee h λsv v H1 h1 w1 r1=>?_⟩;obtain⟨u,⟨ns,us,hi,hl,h2⟩,dv⟩:=r1.du o.ee.eb h1;have o1:=o.to w1;obtain⟨p,g1,gs,xs,g2,g3,g4⟩:=o1.hd i _ _ hi rfl;have kk:∀{x:HO} b y,¬Bx B A b->H1 b=some y->¬Bx B A b/\upd H1 p x b=some y:=λb y n h=>⟨n,(aM (λz:b=p=>n (by rw [z];exact .inr ⟨i,(gs p).mpr rfl⟩))).trans h⟩;refine⟨_,g1,p,_,rfl,aLi.k (k:=Ct k) g2 ?_,?_⟩
 ·have:(zk ns xs).length<=ns.length:=by unfold zk;rw [Lr,Ab];omega
  exact Kh (Cp this hl) (by decide)
 ·rcases h2 with ⟨hk,h2⟩|⟨ms,ws,u0,rfl,rfl,hw,hk,h2⟩
  ·rw [aC4 g3 hk];exact jj.nx (o1.chg g1 ((gs p).mpr rfl) (s':= .oo (dkO (ns++[k]) (us++[u]))) rfl rfl ⟨gs,_,aJ,by rw [Ag,Ag,g3];rfl,DUs.mono kk _ (g4.app (DUs.one dv))⟩) h2
  ·obtain⟨ys,v0,rfl,a1,a2⟩:=aQ7 g4;have ly:=a1.length;rw [aO7 (by omega) hk];exact jj.nx (o1.chg g1 ((gs p).mpr rfl) (s':= .oo (dkO (ms++[k]) (ws++[u]))) rfl rfl ⟨gs,_,aJ,by rw [Ag,Ag];show _+1=_+1;omega,DUs.mono kk _ (a1.app (DUs.one dv))⟩) h2
def aMn {k:Str} {j pk} {value:Expr} {pos pos' p':Pos} {F:TV} (i:Nat) (hr:dH m X.A) (hv:VE X value F) (hN:X.N[i]? =some x:=by rfl) (hvs:Vis X.env.scope x:=by first|exact Bu rfl|exact Bz (Bu rfl)|exact Bz (Bz rfl)) (hd:(x==("__debug__":Str))=false:=by decide)
  (hcd:(x==("__classdict__":Str))=false:=by decide) (hs:swapsWith value (some (.Subscript (.Name x p') (.Constant (.str k) j pk) pos')) pos.line X.env=pure false:=by rfl):VS X (.Assign [.Subscript (.Name x p') (.Constant (.str k) j pk) pos'] value pos) (aUn i k F):=by
 obtain⟨_,p2,f2⟩:=hv;refine⟨_,aJs (by have:=hr.un;omega) (lD hN hvs hd hcd) bY p2 hs,λ{W B H0 A ρ σ H E D} o h jj=>f2 o.ee h λsv v H1 h1 w1 r1=>?_⟩;obtain⟨l,ns,us,rfl,hi,hl,hk,h2⟩:=h1;obtain⟨q,ys,rfl,nq,hq,dl⟩:=r1;have o1:=o.to w1;obtain⟨p0,g0,gs0,xs,g20,g3,g4⟩:=o.hd i _ _ hi rfl;have nWp:¬W p0:=o.nw ((gs0 p0).mpr rfl);have g2:=w1.fr p0 _ nWp g20;have pq:p0≠q:=λz=>by rw [<-z,g20]at nq;cases nq
 refine⟨_,g0,p0,_,rfl,aLi.k (k:=Ct k) g2 ?_,?_⟩
 ·have:(zk ns xs).length<=ns.length:=by unfold zk;rw [Lr,Ab];omega
  exact Kh (Cp this hl) (by decide)
 ·rw [aC4 g3 hk];refine jj.nx (o.rep (i:=i) (s:= .oo (dlO ns us k l)) (S:=λb=>b=p0∨b=q) (p:=p0) rfl rfl (λb y w n h=>?_) (λr hr=>?_) (λb hb=>?_) ⟨q,xs,ys,λ_=>Mh,pq,aJ,g3,DUs.mono (λb y n h=>⟨λz=>?_,?_⟩) us g4,(aM (Cy pq)).trans hq,DUs.mono (λb y n h=>⟨λz=>?_,?_⟩) l dl⟩ g0) h2
  ·exact(aM (λz=>n (.inl z))).trans (w1.fr b y w h)
  ·obtain⟨x,y,z,h⟩:=o1.fw.wo r hr;exact⟨x,y,z,(aM (λe:r=p0=>nWp (by rw [<-e];exact hr))).trans h⟩
  ·rcases hb with rfl|rfl
   ·exact .inl ((gs0 _).mpr rfl)
   ·exact .inr nq
  ·rcases z with z|⟨j,_,z⟩|rfl|rfl
   ·exact n (.inl z)
   ·exact n (.inr ⟨j,z⟩)
   ·exact n (.inr ⟨i,(gs0 _).mpr rfl⟩)
   ·rw [nq]at h;cases h
  ·exact(aM (λz:b=p0=>n (by rw [z];exact .inr ⟨i,(gs0 _).mpr rfl⟩))).trans (w1.fr b y (λz=>n (.inl (o.eb.wb b z))) h)
  ·rcases z with z|⟨j,_,z⟩|rfl|rfl
   ·exact n (.inl (.inl z))
   ·exact n (.inl (.inr ⟨j,z⟩))
   ·exact n (.inl (.inr ⟨i,(gs0 _).mpr rfl⟩))
   ·exact n (.inr rfl)
  ·exact(aM (λz:b=p0=>n (by rw [z];exact .inl (.inr ⟨i,(gs0 _).mpr rfl⟩)))).trans h
def aR8 {k:Str} {j pk} {p' sp apos cpos pos:Pos} {F:TV} (i:Nat) (hr:dH m X.A) (ha:VE X a F) (hN:X.N[i]? =some x:=by rfl) (hv:Vis X.env.scope x:=by first|exact Bu rfl|exact Bz (Bu rfl)|exact Bz (Bz rfl)) (hd:(x==("__debug__":Str))=false:=by decide)
  (hcd:(x==("__classdict__":Str))=false:=by decide)
  (hbase:attributeBase (.Subscript (.Name x p') (.Constant (.str k) j pk) sp) "append" X.env (eval (.Subscript (.Name x p') (.Constant (.str k) j pk) sp) X.env)=eval (.Subscript (.Name x p') (.Constant (.str k) j pk) sp) X.env:=by rfl)
  (hfew:((backTo cpos (starEach [a] X.env)).all (λx=> !x.1) && (backToKw cpos (keywordEach [] X.env)).all (λx=>x.1.isSome)
   && decide ([a].length+([]:List Keyword).length+(if([]:List Keyword).isEmpty then 0 else 1)<30))=true:=by rfl)
  (hline:(apos.endLine==cpos.line)=true:=by rfl) (hs:starEach [a] X.env=(false,eval a X.env)::starEach [] X.env:=by rfl) (hplain:(backTo cpos (starEach [] X.env)).any (·.1)=false:=by rfl)
  (hsw:swapsWith (.Call (.Attribute (.Subscript (.Name x p') (.Constant (.str k) j pk) sp) "append" apos) [a] [] cpos) none pos.line X.env=pure false:=by rfl):
  VS X (.Expr (.Call (.Attribute (.Subscript (.Name x p') (.Constant (.str k) j pk) sp) "append" apos) [a] [] cpos) pos) (aX6 i k F):=by
 obtain⟨_,p,f⟩:=ha;refine⟨_,cV (xT Ec Fx Fu lW (aC8 (by have:=hr.un;omega) (lD hN hv hd hcd) bY (λ_ _=>rfl)) (aN p aZ hs) hbase hfew hline hs hplain) hsw,λ{W B H0 A ρ σ H E D} o h jj=>?_⟩;obtain⟨ns,us,l,hi,hk,hl,h⟩:=h;obtain⟨p,g1,q,xs,ys,gs,pq,g2,g3,g4,g5,g6⟩:=o.hd i _ _ hi rfl;have dg:zQ H p (.str k) (some (.ref q)):=by
  have:=zQ.k (k:=Ct k) g2;rw [aAn g3 hk]at this;exact this
 refine⟨_,g1,p,_,rfl,dg,.inl ⟨rfl,_,SqL.of g5⟩,f o.ee h λs v H1 h5 w r=>?_⟩;obtain⟨u,h6,d⟩:=r.du o.ee.eb h5;have o1:=o.to w;obtain⟨p',k1,q',xs,ys,gs,pq,k2,k3,k4,k5,k6⟩:=o1.hd i _ _ hi rfl;rw [g1]at k1;cases k1;have eq:q'=q:=by
  have a1:=zQ.k (k:=Ct k) k2;have a2:=w.fr p _ (o.nw ((gs p).mpr (.inl rfl))) g2;rw [k2]at a2;have a3:=aAn (v:=V.ref q') k3 hk;have a4:=congrArg (λo=>match o with|some (HO.dK m)=>mR m (Ct k)|_=>none) a2;have a4:mR (zk (ns++[k]) (xs++[.ref q'])) (Ct k)=mR (zk (ns++[k]) _) (Ct k):=a4;rw [a3,aAn g3 hk]at a4;cases a4;rfl
 subst eq;have Aq:A i q':=(gs q').mpr (.inr rfl);have kk:∀{x:HO} b y,¬Bx B A b->H1 b=some y->¬Bx B A b/\upd H1 q' x b=some y:=λb y n h=>⟨n,(aM (λz:b=q'=>n (by rw [z];exact .inr ⟨i,Aq⟩))).trans h⟩;refine⟨q',ys,v,rfl,rfl,k5,?_,jj.nx (o1.chg g1 Aq (s':= .oo (dlO ns us k (l++[u]))) rfl rfl ⟨q',xs,_,gs,pq,(aM pq).trans k2,k3,DUs.mono kk us k4,aJ,DUs.mono kk _ (k6.app (DUs.one d))⟩) h6⟩;have:=k6.length;have:(10000:Nat)<=sizeLine:=by decide
 omega
def aCz {k:Str} {j pos p} {F:TV} (hr:dH m X.A) (ha:VE X a F) (hs:aH6 (.Constant (.str k) j p):=by exactλ_ _=>rfl):VE X (.Subscript a (.Constant (.str k) j p) pos) (aXu F k):=by
 obtain⟨_,p,f⟩:=ha;refine⟨_,aC8 (by have:=hr.un;omega) p bY hs,λ{W B ρ σ H R Q} e h q=>f e h λs v H1 h1 f1 r=>?_⟩;rcases h1 with ⟨ns,us,rfl,h1⟩|⟨ns,us,k',l,rfl,h1⟩
 ·obtain⟨p,S,rfl,_,s,xs,hp,_,ds⟩:=r;obtain⟨u,v,h2,h3,h4⟩:=yH ds h1;exact⟨p,v,rfl,by rw [<-h4];exact zQ.k (k:=Ct k) hp,q _ _ _ h2 f1 h3⟩
 ·obtain⟨p,S,rfl,_,q',xs,ys,s,_,hp,hl,ds,_⟩:=r;obtain⟨u,v,h2,h3,h4⟩:=yH ds h1;have h4:mR (zk ns xs) (Ct k)=some v:=h4;exact⟨p,v,rfl,by rw [<-aPn (k':=k') (v':= .ref q') h4 hl];exact zQ.k (k:=Ct k) hp,q _ _ _ h2 f1 h3⟩
def aU0 {st:List Stmt} {G:TVS} (i:Nat) (h:VSs X st G):VSs X st (vDk i G):=by
 obtain⟨_,p,f⟩:=h;refine⟨_,p,λ{W B H0 A ρ σ H E D} o h j=>?_⟩;obtain⟨ns,us,k,l,hi,hu,h⟩:=h;obtain⟨p,g1,q,xs,ys,gs,pq,g2,g3,g4,g5,g6⟩:=o.hd i _ _ hi rfl;have kk:∀b y,¬Bx B A b->H b=some y->¬(B b∨(∃j,j≠i/\A j b)∨b=p)/\H b=some y:=λb y n h=>⟨λz=>n (z.elim .inl λz=>z.elim (λ⟨j,_,z⟩=> .inr ⟨j,z⟩) λz=> .inr ⟨i,(gs b).mpr (.inl z)⟩),h⟩;refine f (o.rep (i:=i) (s:= .oo (dkO (ns++[k]) (us++[.ls l]))) (S:=(·=p)) (p:=p) rfl rfl (λb y _ _ h=>h) o.fw.wo (λb hb=> .inl ((gs b).mpr (.inl hb))) ⟨λ_=>Mh,_,g2,by rw [Ag,Ag,g3];rfl,(DUs.mono kk us g4).app (DUs.one (u:= .ls l) ⟨q,ys,rfl,λz=>?_,g5,DUs.mono kk l g6⟩)⟩ g1) h j;rcases z with z|⟨j,ne,z⟩|z
 ·exact o.now (o.an i q ((gs q).mpr (.inr rfl))) z
 ·exact ne (o.inj j i q z ((gs q).mpr (.inr rfl)))
 ·exact pq z.symm
def aRf {st:List Stmt} {G:TVS} (i:Nat) (h:VSs X st G):VSs X st (aZj i G):=by
 obtain⟨_,p,f⟩:=h;refine⟨_,p,λ{W B H0 A ρ σ H E D} o h j=>?_⟩;obtain⟨ns,us,hi,h⟩:=h;exact f (o.frz (u:= .dk ns us) hi rfl λn ⟨s,xs,h1,h2,h3⟩=>⟨_,xs,rfl,n _ ((s _).mpr rfl),h1,h2,h3⟩) h j
def aM1 {st:List Stmt} {F G:TVS} (h:VSs X st F) (hw:∀E ρ,G E ρ->F E ρ):VSs X st G:=by
 obtain⟨t,p,f⟩:=h;exact⟨t,p,λo g j=>f o (hw _ _ g) j⟩
theorem aFf:∀(n:Nat) (L:List (Tke×Addr×Value)),L.length=n->(L.map (·.1)).Nodup->oV L=L
 |0,L,h,_=>by rw [List.length_eq_zero_iff.mp h];rfl
 |n+1,L,h,nd=>by
  obtain⟨M,x,rfl⟩:∃M x,L=M++[x]:=⟨L.dropLast,L.getLast (by intro z;rw [z]at h;cases h),(Hi _).symm⟩;rw [Ag,De]at h;rw [Ay,Ig]at nd;rw [pA,aFf n M (by omega) nd.1];have e:atKey M x.1=none:=by
   unfold atKey;rw [List.find?_eq_none.mpr λy hy z=>nd.2.2 y.1 (List.mem_map.mpr ⟨y,hy,rfl⟩) x.1 (by simp) (of_decide_eq_true z)];rfl
  unfold storedH;rw [e];rfl
def aQ6 {W B B':Addr->Prop} {H H':Hp} {k:Tke} (m:∀b xs,¬B b->H b=some (.tup xs)->¬B' b/\H' b=some (.tup xs)) (d:DU W B H (tkU k) v):DU W B' H' (tkU k) v:=by
 obtain⟨a,ys,rfl,nb,ha,y1,_,rfl,f1,y2,r2,rfl,⟨q,zs,rfl,nq,hq,dz⟩,e3⟩:=d;refine⟨a,_,rfl,(m a _ nb ha).1,(m a _ nb ha).2,y1,_,rfl,f1,_,r2,rfl,⟨q,zs,rfl,(m q _ nq hq).1,(m q _ nq hq).2,?_⟩,e3⟩;revert dz;generalize k.2=l;clear hq;induction l generalizing zs with
 |nil=>exactλh=>h
 |cons x l ih=>
  rintro⟨v,r,e,d,t⟩;exact⟨v,r,e,d,ih _ t⟩
inductive PlR (W B:Addr->Prop) (H:Hp) (f:Tke->List U):List Tke->List (Tke×Addr×Value)->Prop
 |nil:PlR W B H f [] []
 |cons {k:Tke} {l:List Tke} {r:List (Tke×Addr×Value)} {c q:Addr} {vs:List V}:DU W B H (tkU k) (.ref c)->H q=some (.lst vs)->DUs W B H (f k) vs->PlR W B H f l r->PlR W B H f (k::l) ((k,c,An q)::r)
def apf (f:Tke->List U) (k:Tke) (u:U):Tke->List U:=λz=>if z=k then f z++[u]else f z
section
variable {W W' B B':Addr->Prop} {H H':Hp} {f:Tke->List U}
variable {l:List Tke} {xs:List (Tke×Addr×Value)}
def PlR.mono (k:∀b o,¬B b->H b=some o->¬B' b/\H' b=some o) (e:∀b,An b∈xs.map (·.2.2)->H' b=H b) (h:PlR W B H f l xs):PlR W B' H' f l xs:=by
 induction h with
 |nil=>exact .nil
 |cons d h ds t ih=>exact .cons (DU.mono k _ d) ((e _ Ae).trans h) (DUs.mono k _ ds) (ih λb hb=>e b (Ad _ hb))
def PlR.wm (k:∀p,W p->W' p) (h:PlR W B H f l xs):PlR W' B H f l xs:=by
 induction h with
 |nil=>exact .nil
 |cons d h ds t ih=>exact .cons (DU.wm k _ d) h (DUs.wm k _ ds) ih
def PlR.th (h:PlR W B H f l xs) (b:Addr) (hb:An b∈xs.map (·.2.2)):∃vs,H b=some (.lst vs):=by
 induction h with
 |nil=>cases hb
 |cons d h ds t ih=>
  rcases List.mem_cons.mp hb with z|z
  ·cases z;exact⟨_,h⟩
  ·exact ih z
def PlR.pky (h:PlR W B H f l xs):∀x∈xs,PKy H (x.1,x.2.1):=by
 induction h with
 |nil=>exact nofun
 |cons d h ds t ih=>exactλx hx=>(List.mem_cons.mp hx).elim (λz=>z▸aHl d) (ih x)
def PlR.at_ {k:Tke} (h:PlR W B H f l xs) (hb:k∈l):∃c q vs,atKey xs k=some (c,An q)/\H q=some (.lst vs)/\DUs W B H (f k) vs/\An q∈xs.map (·.2.2):=by
 induction h with
 |nil=>cases hb
 |@cons k' l r c q vs d h ds t ih=>
  by_cases z:k'=k
  ·subst z;exact⟨c,q,vs,by simp [atKey,Dc],h,ds,Ae⟩
  ·obtain⟨c',q',vs',a1,a2,a3,a4⟩:=ih ((List.mem_cons.mp hb).resolve_left λy=>z y.symm);exact⟨c',q',vs',by rw [<-a1];simp [atKey,Dc,z],a2,a3,Ad _ a4⟩
def PlR.oth {k:Tke} {u:U} {q:Addr} {x:HO} (hq:B q) (h:PlR W B H f l xs) (nq:An q∉xs.map (·.2.2)) (nk:k∉l):PlR W B (upd H q x) (apf f k u) l xs:=by
 induction h with
 |nil=>exact .nil
 |@cons k' l r c q' vs d h ds t ih=>
  have kk:∀b o,¬B b->H b=some o->¬B b/\upd H q x b=some o:=λb o n h=>⟨n,(aM (λz:b=q=>n (z▸hq))).trans h⟩;refine .cons (DU.mono kk _ d) ((aM (λz:q'=q=>nq (by rw [<-z];exact Ae))).trans h) ?_ (ih (λz=>nq (Ad _ z)) λz=>nk (Ad _ z));rw [show apf f k u k'=f k' from if_neg λz:k'=k=>nk (by rw [<-z];exact Ae)];exact DUs.mono kk _ ds
def PlR.app {k:Tke} {u:U} {c q:Addr} {ws:List V} (hq:B q) (hw:H q=some (.lst ws)) (dv:DU W B H u v) (h:PlR W B H f l xs) (nd:(xs.map (·.2.2)).Nodup) (nl:l.Nodup) (ha:atKey xs k=some (c,An q)):PlR W B (upd H q (.lst (ws++[v]))) (apf f k u) l xs:=by
 induction h with
 |nil=>exact .nil
 |@cons k' l r c' q' vs d h ds t ih=>
  have kk:∀b o,¬B b->H b=some o->¬B b/\upd H q (.lst (ws++[v])) b=some o:=λb o n h=>⟨n,(aM (λz:b=q=>n (z▸hq))).trans h⟩;rw [Aw,Lq]at nd;rw [Lq]at nl;by_cases z:k'=k
  ·subst z;have:some (c',An q')=some (c,An q):=by rw [<-ha];simp [atKey,Dc]
   cases this;rw [h]at hw;cases hw;refine .cons (DU.mono kk _ d) aJ ?_ (t.oth hq nd.1 nl.1);rw [show apf f k' u k'=f k'++[u]from if_pos rfl];exact DUs.mono kk _ (ds.app (DUs.one dv))
  ·have ha:atKey r k=some (c,An q):=by rw [<-ha];simp [atKey,Dc,z]
   have hm:An q∈r.map (·.2.2):=by
    unfold atKey at ha;obtain⟨y,h1,h2⟩:=Option.map_eq_some_iff.mp ha;exact List.mem_map.mpr ⟨y,Mq h1,by rw [h2]⟩
   refine .cons (DU.mono kk _ d) ((aM (λy:q'=q=>nd.1 (y▸hm))).trans h) ?_ (ih nd.2 nl.2 ha);rw [show apf f k u k'=f k' from if_neg z];exact DUs.mono kk _ ds
end
def plO (P:Program) (w:World) (ks:List Tke) (f:Tke->List U):Own:=⟨λW B S H p=>∃xs,(∀b,S b↔b=p∨An b∈xs.map (·.2.2))/\An p∉xs.map (·.2.2)/\(xs.map (·.2.2)).Nodup/\H p=some (.ext (dD P w p xs))/\PlR W B H f ks xs,
 λk e ⟨xs,s,n,nd,h,r⟩=>⟨xs,s,n,nd,(e _ ((s _).mpr (.inl rfl))).trans h,r.mono k λb hb=>e b ((s b).mpr (.inr hb))⟩,λk ⟨xs,s,n,nd,h,r⟩=>⟨xs,s,n,nd,h,r.wm k⟩,λ⟨xs,s,n,nd,h,r⟩ b hb=>((s b).mp hb).elim (λz=>by rw [z];exact⟨_,h,trivial⟩) λz=>let⟨vs,g⟩:=r.th b z;⟨_,g,trivial⟩,λ⟨_,s,_⟩=>(s _).mpr (.inl rfl)⟩
inductive aKn (H:Hp):List V->List (Tke×Addr×Value)->Prop
 |nil:aKn H [] []
 |cons {vs:List V} {r:List (Tke×Addr×Value)} {k:Tke} {c b p:Addr}:H p=some (.tup [.ref c,.ref b])->PKy H (k,c)->aKn H vs r->aKn H (.ref p::vs) ((k,c,An b)::r)
def aL4 {P:Program} {w:World} {H:Hp} {h:Heap} (hok:HOk P w H h) {zs:List (Tke×Addr×Value)} {its:List Value} (t:aKn H vs zs) (rv:Vals vs its):
  zs.length=its.length/\(∀x∈zs,PKy H (x.1,x.2.1))/\∀(i:Nat) (v:Value),its[i]? =some v->∃x p,zs[i]? =some x/\v= .ref p/\h.TwoAt p (.ref x.2.1) x.2.2:=by
 induction t generalizing its with
 |nil=>
  cases rv;exact⟨rfl,nofun,λi v e=>by simp at e⟩
 |@cons vs r k c b p e1 e2 t ih=>
  cases rv with
  |@cons _ u _ _ ru rs=>
   obtain⟨h2,h4,h3⟩:=ih rs;obtain rfl:u=An p:=ru;obtain⟨_,its,ri,o,g1,g2,n,g3⟩:=(show cL P w H h p (.tup [.ref c,.ref b])from hok p _ e1);obtain⟨v1,v2,rfl,r1,r2⟩:=vals2 ri;obtain rfl:v1=An c:=r1;obtain rfl:v2=An b:=r2;refine⟨congrArg (·+1) h2,λx hx=>(List.mem_cons.mp hx).elim (λz=>z▸e2) (h4 x),λi v e=>?_⟩;cases i with
   |zero=>
    obtain rfl:An p=v:=by simpa using e
    exact⟨_,p,rfl,rfl,o,n,g1,g2,g3⟩
   |succ i=>exact h3 i v (by simpa using e)
def aWj {W B:Addr->Prop} {H:Hp} {ks:List Tke} {es:List (Addr×Addr)} (d:DUs W B H (ks.map λk=>U.tp [tkU k,.ls []]) (es.map λx=>V.ref x.1)) (h:∀x∈es,(∃c,H x.1=some (.tup [c,.ref x.2]))/\H x.2=some (.lst [])):
  ∃zs:List (Tke×Addr×Value),aKn H (es.map λx=>V.ref x.1) zs/\zs.map (·.1)=ks/\zs.map (·.2.2)=es.map (λx=>An x.2)/\PlR W B H (λ_=>[]) ks zs:=by
 induction ks generalizing es with
 |nil=>
  obtain rfl:=List.map_eq_nil_iff.mp (show es.map (λx=>V.ref x.1)=[]from d);exact⟨[],.nil,rfl,rfl,.nil⟩
 |cons k ks ih=>
  obtain⟨v,r,e,d,t⟩:=d;cases es with
  |nil=>cases e
  |cons x es=>
   cases e;obtain⟨zs,h1,h2,h3,h4⟩:=ih t λy hy=>h y (Ad _ hy);obtain⟨⟨c,a1⟩,a2⟩:=h x Ae;obtain⟨p,ys,e,nb,hp,y1,_,rfl,d1,y2,r2,rfl,_,e3⟩:=d;obtain rfl:r2=[]:=e3;cases e;rw [hp]at a1;cases a1;obtain⟨b,rfl,kb⟩:=aAh d1;exact⟨(k,b,An x.2)::zs,.cons hp kb h1,by rw [Aw,h2],by rw [Aw,h3];rfl,.cons d1 a2 rfl h4⟩
inductive aJ7 (P:Program) (w:World) (xs:List V) (H:Hp) (Q:VK):Prop
 |mk (l vs zs:_) (q0_:xs=[.ref l]) (q1_:H l=some (.lst vs)) (q2_:aKn H vs zs) (q3_:(zs.map (·.1)).Nodup) (q4_:∀d,H d=none->Q (.ref d) (upd H d (.ext (dD P w d zs)))):aJ7 P w xs H Q
def aVr (P:Program) (w:World):List V->Hp->VK->Prop:=λxs H Q=>aJ7 P w xs H Q
def aQk {P:Program} {w:World} {h h':Heap} {x:Tke} {a:Addr} (e:(dZ (intKind P w)).is h x a) (k:∀b o,h.get? b=some o->h'.get? b=some o):(dZ (intKind P w)).is h' x a:=by
 obtain⟨o,v,b,n,h1,h2,h3,h4,o',its,m,g1,g⟩:=e;exact⟨o,v,b,n,k _ _ h1,h2,h3,h4,o',its,m,k _ _ g1,g⟩
def aH5 {X:Cx} (hc:X.calm=true) (hu:X.A.units+4<cLine):eF X (.type "dict") (aVr X.prog X.w):=by
 intro pins s σ H xs us Q I r h;obtain⟨l,vs,zs,rfl,hl,hp,nd,q⟩:=h;obtain⟨u,rfl,ru⟩:=vals1 r;obtain rfl:u=An l:=ru;obtain⟨z,its,n,rv,hg⟩:=(show cL X.prog X.w H s.heap l (.lst vs)from I.hok l _ hl);obtain⟨h2,h1,h3⟩:=aL4 I.hok hp rv;have lz:its.length<=sizeLine:=by rw [<-rv.length];exact z
 refine yG (knd:=dZ (intKind X.prog X.w)) (I.ok.hd hc) hg (show X.A.in1.in1.units+1<cLine by show X.A.units+1+1+1<cLine;omega) (λh' x a e k=>aQk e k) zs (by rw [h2,Al]) (by rw [Al];exact lz) (λx hx=>pF I.hok (h1 x hx)) (λi v e=>h3 i v (by simpa using e)) λh' tk hd hk'=>?_;rw [aFf _ zs rfl nd]at hd;obtain⟨o,es,ep,g1,g2,g3,g4,g5⟩:=hd;have hpo:dD X.prog X.w s.heap.objs.size zs h':=⟨beq_eq_false_iff_ne.mpr (Cy (Ax I.big)),o,es,ep,g1,g2,g3,g4,g5⟩;have ok:cL X.prog X.w (upd H s.heap.objs.size (.ext (dD X.prog X.w s.heap.objs.size zs))) h' s.heap.objs.size (.ext (dD X.prog X.w s.heap.objs.size zs)):=⟨hpo,⟨o,g1⟩,λa b p k=>dD.stay a b p k⟩;exact⟨.ref s.heap.objs.size,_,I.laid (a:=s.heap.objs.size) (o:= .ext (dD X.prog X.w s.heap.objs.size zs)) (t':=tk) hk' (Am _) ok,rfl,q _ (I.hok.fresh (Am _))⟩
def Sd (H1:Hp) (D:Addr) (H2:Hp):Prop:=∃es:List (Addr×Addr),H2 D=some (.lst (es.map λx=>V.ref x.1))/\(es.map (·.2)).Nodup/\∀x∈es,H1 x.1=none/\H1 x.2=none/\x.1≠D/\x.2≠D/\(∃c,H2 x.1=some (.tup [c,.ref x.2]))/\H2 x.2=some (.lst [])
def vDl (P:Program) (w:World) (Fi:TVa):TV:=λρ R=>Fi ρ λl=>∃ks:List Tke,l=ks.map tkU/\ks.Nodup/\ks.length<=10000/\R (.oo (plO P w ks λ_=>[]))
def aTh (P:Program) (w:World) (j:Nat) (Fk F:TV):TVS:=λE ρ=>∃ks f,ρ[j]? =some (.oo (plO P w ks f))/\ks.Nodup/\Fk ρ λsk=>∃k,sk.rd=tkU k/\k∈ks/\(f k).length<10000/\F ρ λs=>s.es λu=>E.nx (ρ.set j (.oo (plO P w ks (apf f k u))))
def vLg (P:Program) (w:World) (a b:TV):TV:=λρ R=>a ρ λs=>b ρ λs'=>∃ks f k,s= .bo (plO P w ks f)/\s'.rd=tkU k/\k∈ks/\R (.br (f k))
def boot_dict:bootBuiltins "dict"=some (.type "dict"):=by decide+kernel
def aMr {o i:Expr} {pos:Pos} {F G:TV} (hP:X.prog=P) (hw:X.w=w) (hr:dH k X.A) (ha:VE X o F) (hb:VE X i G) (hs:aH6 i:=by exactλ_ _=>rfl):VE X (.Subscript o i pos) (vLg P w F G):=by
 subst hP hw;obtain⟨_,p,f⟩:=ha;obtain⟨_,p',f'⟩:=hb;refine⟨_,aTn (by have:=hr.un;omega) p p' hs,λ{W B ρ σ H R Q} e h q=>f e h λs v H1 h1 w1 r1=>f' (e.to w1) h1 λs' v' H2 h2 w2 r2=>?_⟩;obtain⟨ks,f,k,rfl,ek,hk,h3⟩:=h2;have e1:=e.to w1;obtain⟨a,S,rfl,nw,φ⟩:=r1;have φ2:=(plO X.prog X.w ks f).mono (e1.eb.keep w2) (λb hb=>let⟨y,hy,_⟩:=(plO X.prog X.w ks f).th φ b hb;(w2.fr b y (nw b hb) hy).trans hy.symm) φ;obtain⟨xs,gs,gp,gn,gx,gr⟩:=φ2;have d:=r2.db e1.eb;rw [ek]at d;have dk:DU W B H2 (tkU k) v':=d.tp;obtain⟨b,rfl,kb⟩:=aAh dk;obtain⟨c,q',vs,a1,a2,a3,a4⟩:=gr.at_ hk;exact⟨a,b,xs,k,_,c,.ref q',rfl,rfl,gx,gr.pky,kb,a1,rfl,q _ _ _ h3 (w1.trans w2) ⟨q',vs,rfl,nw q' ((gs q').mpr (.inr a4)),a2,a3⟩⟩
def aQs {i a:Expr} {p' sp apos cpos pos:Pos} {Fk F:TV} (j:Nat) (hP:X.prog=P) (hw:X.w=w) (hr:dH m X.A) (hk:VE X i Fk) (ha:VE X a F) (hN:X.N[j]? =some x:=by rfl) (hv:Vis X.env.scope x:=by first|exact Bu rfl|exact Bz (Bu rfl)|exact Bz (Bz rfl)) (hd:(x==("__debug__":Str))=false:=by decide)
  (hcd:(x==("__classdict__":Str))=false:=by decide) (hn:aH6 i:=by exactλ_ _=>rfl)
  (hbase:attributeBase (.Subscript (.Name x p') i sp) "append" X.env (eval (.Subscript (.Name x p') i sp) X.env)=eval (.Subscript (.Name x p') i sp) X.env:=by rfl)
  (hfew:((backTo cpos (starEach [a] X.env)).all (λx=> !x.1) && (backToKw cpos (keywordEach [] X.env)).all (λx=>x.1.isSome)
   && decide ([a].length+([]:List Keyword).length+(if([]:List Keyword).isEmpty then 0 else 1)<30))=true:=by rfl)
  (hline:(apos.endLine==cpos.line)=true:=by rfl) (hs:starEach [a] X.env=(false,eval a X.env)::starEach [] X.env:=by rfl) (hplain:(backTo cpos (starEach [] X.env)).any (·.1)=false:=by rfl)
  (hsw:swapsWith (.Call (.Attribute (.Subscript (.Name x p') i sp) "append" apos) [a] [] cpos) none pos.line X.env=pure false:=by rfl):
  VS X (.Expr (.Call (.Attribute (.Subscript (.Name x p') i sp) "append" apos) [a] [] cpos) pos) (aTh P w j Fk F):=by
 subst hP hw;obtain⟨_,p1,f1⟩:=hk;obtain⟨_,p2,f2⟩:=ha;refine⟨_,cV (xT Ec Fx Fu lW (aTn (by have:=hr.un;omega) (lD hN hv hd hcd) p1 hn) (aN p2 aZ hs) hbase hfew hline hs hplain) hsw,λ{W B H0 A ρ σ H E D} o h jj=>?_⟩;obtain⟨ks,f,hj,nd,h⟩:=h;obtain⟨p,g1,_⟩:=o.hd j _ _ hj rfl;refine⟨_,g1,f1 o.ee h λsk y H1 h1 w1 r1=>?_⟩;obtain⟨k,ek,hk,hl,h1⟩:=h1;have o1:=o.to w1;obtain⟨p',g2,xs,gs,gp,gn,gx,gr⟩:=o1.hd j _ _ hj rfl;rw [g1]at g2;cases g2;have d:=r1.db o.ee.eb;rw [ek]at d;obtain⟨b,rfl,kb⟩:=aAh (k:=k) d.tp;obtain⟨c,q,vs,a1,a2,a3,a4⟩:=gr.at_ hk;refine⟨p,b,xs,k,_,c,.ref q,rfl,rfl,gx,gr.pky,kb,a1,rfl,.inl ⟨rfl,_,SqL.of a2⟩,f2 o1.ee h1 λs v H2 h2 w2 r2=>?_⟩;obtain⟨u,h3,du⟩:=r2.du o1.ee.eb h2;have o2:=o1.to w2;have ke:∀b,A j b->H2 b=H1 b:=λb hb=>let⟨y,hy,_⟩:=o1.aw j b hb;(w2.fr b y (o1.nw hb) hy).trans hy.symm;have gr2:=gr.mono (o1.ee.eb.keep w2) λb hb=>ke b ((gs b).mpr (.inr hb));have Aq:A j q:=(gs q).mpr (.inr a4);have a2:=(ke q Aq).trans a2;have pq:p≠q:=λz=>gp (by rw [z];exact a4);refine⟨q,vs,v,rfl,rfl,a2,?_,jj.nx (o2.chg g1 Aq (s':= .oo (plO X.prog X.w ks (apf f k u))) rfl rfl ⟨xs,gs,gp,gn,(aM pq).trans ((ke p ((gs p).mpr (.inl rfl))).trans gx),gr2.app (.inr ⟨j,Aq⟩) a2 du gn nd a1⟩) h3⟩;have:=a3.length;have:(10000:Nat)<=sizeLine:=by decide
 omega
def aW1 {iter tg elt:Expr} {y:Str} {pos pos' p:Pos} {Fi:TVa} (hP:X.prog=P) (hw:X.w=w) (hr:dH k X.A) (ok:yL scope) (hc:X.calm=true) (hm:X.mg "dict"=none) (hi:VIc X tg iter Fi) (hg:∀cl C s2 H2 fp,PG (bR X (eE [y] []) scope cl C s2 H2 fp) tg g) (hG:VTh 1 g (kZ 0))
  (he:∀cl C s2 H2 fp,PE (bR X (eE [y] []) scope cl C s2 H2 fp) elt (aXb (aEm (aWe 0) (aEm (aW7 aKi) aKi)))) (hgl:Gl X "dict":=by rfl) (hs:∀x,foldedSetIterable iter X.env x=pure x:=by intro _;rfl) (hse:starEach [.ListComp elt [⟨tg,iter,[],0⟩] scope pos] X.env=(false,eval (.ListComp elt [⟨tg,iter,[],0⟩] scope pos) X.env)::starEach [] X.env:=by rfl)
  (hpl:(backTo pos' (starEach [] X.env)).any (·.1)=false:=by rfl):VE X (.Call (.Name "dict" p) [.ListComp elt [⟨tg,iter,[],0⟩] scope pos] [] pos') (vDl P w Fi):=by
 subst hP hw;obtain⟨_,p,f⟩:=hi;refine⟨_,lX (aH5 hc (by have:=hr.un;omega)) hgl hm boot_dict (aN (aPu (own:=[y]) ok hc p hg he hs) aZ hse) (by decide) (by decide) hse hpl,λ{W B ρ σ H R Q} e h q=>?_⟩;refine f e h λl J H1 h1 w wk D n1=>?_;obtain⟨ks,rfl,nd,kl,h2⟩:=h1;have e1:=e.to w;have nW:∀{b},H1 b=none->¬W b:=λn z=>e1.eb.nw n (e1.eb.wb _ z);refine⟨λi m σ2 H2=>CW W B H1 D (sZ 1 [] ρ) (ks.map tkU) (λu k=>k (some (.tp [u,.ls []]))) (λus=>us=ks.map λk=> .tp [tkU k,.ls []]) i m σ2 H2/\Sd H1 D H2,⟨_,CW.beg e1 n1 (eY (h:=λu=> .tp [u,.ls []]) (λ_ _ _ h=>h) (by rw [Dy,Bk];rfl)),[],aJ,Hx,nofun⟩,λi m σ2 H2 ⟨c,es,s1,s2,s3⟩=>?_⟩;have ceb:EB W (λb=>B b∨b=D) H2:=let⟨_,_,_,_,c,_⟩:=c;c.ee.eb;have fw:Fw W H1 H2:=let⟨_,_,_,_,c,_⟩:=c;c.fw;have tr:Tr B H1 (λb=>B b∨b=D) H2:=λb o nb h=>⟨λz=>z.elim nb (aQ h n1),(e1.eb.keep fw b o nb h).2⟩;by_cases hlt:i<(ks.map tkU).length
 ·refine .inr ⟨wk.go i tr fw hlt,λx H3 y=>?_⟩;have w3:=(wk.yld i ceb tr fw (Ak hlt) y).1;obtain⟨u,us,e3,d3,h3,put,_⟩:=c.turn e1 n1 (by rw [Ab];exact kl) wk hlt y;refine hG e3 d3 (k:=λr=>r=(sZ 1 [] ρ).set 0 (.sh u)) rfl λρ' σ' e' l' a' h'=>?_;subst h';obtain⟨v,v1,v2⟩:=e'.sh 0 u rfl;refine⟨v,v1,Bb _,λq nq=>⟨by show 2<=sizeLine;decide,λp np=>?_⟩⟩;have D3:H3 D=some (.lst (es.map λx=>V.ref x.1)):=w3.fr D _ (nW n1) s1;have qD:q≠D:=λz=>by rw [z,D3]at nq;cases nq
  have pq:p≠q:=λz=>by rw [z,aJ]at np;cases np
  have np3:H3 p=none:=by rw [aM pq]at np;exact np
  have pD:p≠D:=λz=>by rw [z,D3]at np3;cases np3
  have w4:Fw W H3 (upd (upd H3 q (.lst [])) p (.tup [v,.ref q])):=(e'.eb.new nq).trans ((e'.to (e'.eb.new nq)).eb.new np);have at5:∀{b o},H3 b=some o->upd (upd H3 q (.lst [])) p (.tup [v,.ref q]) b=some o:=λ{b o} h=>by rw [aM (aQ h np3),aM (aQ h nq)];exact h
  have H1n:∀{b},H3 b=none->H1 b=none:=λ{b} h=>by
   cases hb:H1 b with
   |none=>rfl
   |some o=>rw [w3.fr b o (λz=>by obtain⟨_,_,_,y⟩:=w3.wo b z;rw [h]at y;cases y) (fw.fr b o (λz=>by obtain⟨_,_,_,y⟩:=w3.wo b z;rw [h]at y;cases y) hb)]at h;cases h
  have nB:∀{b},H3 b=none->¬(B b∨b=D):=λh z=>e'.eb.dm _ z h;obtain⟨ys,y1,y2,y3,y4,y5⟩:=put (.tp [u,.ls []]) (.ref p) σ' _ h3 w4 ⟨p,_,rfl,nB np3,aJ,v,_,rfl,DU.mono (λb o n h=>⟨n,at5 h⟩) u v2,.ref q,[],rfl,⟨q,[],rfl,nB nq,(aM (Cy pq)).trans aJ,rfl⟩,rfl⟩ l' a';have ey:=(at5 D3).symm.trans y1;cases ey;refine⟨_,y1,y2,y3,y4,y5,es++[(p,q)],by rw [Ay];exact aJ,?_,λx hx=>?_⟩
  ·rw [Ay,Ig];refine⟨s2,by simp,λa ha b hb z=>?_⟩;obtain⟨x,hx,rfl⟩:=List.mem_map.mp ha;have hb:b=q:=by simpa using hb
   have:=w3.fr x.2 _ (nW (s3 x hx).2.1) (s3 x hx).2.2.2.2.2;rw [z,hb,nq]at this;cases this
  ·rcases List.mem_append.mp hx with hx|hx
   ·obtain⟨b1,b2,b3,b4,⟨c,b5⟩,b6⟩:=s3 x hx;exact⟨b1,b2,b3,b4,⟨c,(aM b3).trans (at5 (w3.fr _ _ (nW b1) b5))⟩,(aM b4).trans (at5 (w3.fr _ _ (nW b2) b6))⟩
   ·have hx:x=(p,q):=by simpa using hx
    subst hx;exact⟨H1n np3,H1n nq,pD,qD,⟨v,(aM pD).trans aJ⟩,(aM qD).trans ((aM (Cy pq)).trans aJ)⟩
 ·refine .inl ⟨?_,?_⟩
  ·have hi':=c.2.1;obtain rfl:i=(ks.map tkU).length:=by omega
   exact wk.stop tr fw
  ·have hi':=c.2.1;obtain rfl:i=(ks.map tkU).length:=by omega
   obtain⟨_,_,us,acc,c,_,h3⟩:=c;rw [Ir]at h3;have h3:us=ks.map λk=>U.tp [tkU k,.ls []]:=h3;subst h3;have ea:=c.dl.symm.trans s1;cases ea;obtain⟨zs,t1,t2,t3,t4⟩:=aWj c.du λx hx=>(s3 x hx).2.2.2.2;refine⟨D,_,zs,rfl,s1,t1,by rw [t2];exact nd,λd nd'=>?_⟩;have hz:∀b,An b∈zs.map (·.2.2)↔ ∃x∈es,x.2=b:=λb=>by
    rw [t3,Ts];exact⟨λ⟨x,hx,z⟩=>⟨x,hx,Pq z⟩,λ⟨x,hx,z⟩=>⟨x,hx,by rw [z]⟩⟩
   have dn:∀{b o},H2 b=some o->b≠d:=λh=>aQ h nd';refine q _ _ _ h2 ((w.trans fw).trans (ceb.new nd')) (RO.back (s:= .oo _) w ⟨d,λb=>b=d∨An b∈zs.map (·.2.2),rfl,λb hb=>?_,zs,λ_=>Mh,λz=>?_,?_,aJ,?_⟩)
   ·rcases hb with rfl|hb
    ·cases hb:H1 b with
     |none=>rfl
     |some o=>rw [fw.fr b o (λz=>by obtain⟨_,_,_,y⟩:=fw.wo b z;rw [nd']at y;cases y) hb]at nd';cases nd'
    ·obtain⟨x,hx,rfl⟩:=(hz b).mp hb;exact(s3 x hx).2.1
   ·obtain⟨x,hx,rfl⟩:=(hz d).mp z;rw [(s3 x hx).2.2.2.2.2]at nd';cases nd'
   ·rw [t3];unfold Kn at s2⊢;rw [Dt]at s2⊢;exact s2.imp λh z=>h (Pq z)
   ·have cl:∀b,An b∈zs.map (·.2.2)->∃vs,H2 b=some (.lst vs):=t4.th;have:∀{ks:List Tke} {xs:List (Tke×Addr×Value)},(∀b,An b∈xs.map (·.2.2)->An b∈zs.map (·.2.2))->PlR W (λb=>B b∨b=D) H2 (λ_=>[]) ks xs->PlR W (λb=>B b∨b=d∨An b∈zs.map (·.2.2)) (upd H2 d (.ext (dD X.prog X.w d zs))) (λ_=>[]) ks xs:=by
     intro ks xs hx hp;induction hp with
     |nil=>exact .nil
     |cons d1 h1 ds t ih=>
      refine .cons (aQ6 (λb ys nb hb=>⟨λz=>z.elim (λz=>nb (.inl z)) λz=>z.elim (dn hb) λz=>?_,(aM (dn hb)).trans hb⟩) d1) ((aM (dn h1)).trans h1) ds (ih λb hb=>hx b (Ad _ hb));obtain⟨vs,z⟩:=cl b z;rw [hb]at z;cases z
    exact this (λ_ h=>h) t4
end L2
namespace Q
open PySem PyProof.Rows L2
def top (i:Nat):Stmt:=PySem.Challenge.pw_slanttiles_k32_who_reads_a_spot.main.body.getD i (.Pass ⟨0,0,0,0⟩)
abbrev pL:Stmt:=top 2
abbrev lR:Stmt:=top 3
abbrev uC:Stmt:=top 11
abbrev rE:Stmt:=top 12
abbrev lQ:Stmt:=inClass (top 22) 0
abbrev fZ:Stmt:=inClass (top 22) 1
abbrev lO:Stmt:=inClass (top 22) 4
abbrev iJ:Stmt:=inClass (top 22) 5
abbrev jA:Stmt:=inClass (top 22) 6
abbrev eG:Stmt:=inClass (top 23) 1
abbrev gC:Stmt:=inClass (top 24) 1
abbrev lV:Stmt:=inClass (top 24) 4
abbrev iV:Stmt:=inClass (top 25) 1
abbrev lM:Stmt:=inClass (top 31) 1
abbrev gA:Stmt:=inClass (top 31) 2
abbrev jB:Stmt:=inClass (top 32) 1
abbrev nG:Stmt:=top 33
abbrev oZ:Stmt:=top 34
abbrev jQ:Stmt:=top 35
abbrev qH:Stmt:=top 36
abbrev iY:Stmt:=inClass (top 41) 0
abbrev pJ:Stmt:=inClass (top 41) 1
abbrev gU:Stmt:=inClass (top 41) 2
abbrev iK:Stmt:=inClass (top 41) 4
abbrev rH:Stmt:=inClass (top 41) 5
abbrev pQ:Stmt:=top 42
abbrev uZ:Stmt:=top 43
abbrev aAc:Stmt:=top 46
abbrev lB:Stmt:=top 47
abbrev uI:Stmt:=top 48
abbrev lC:Stmt:=inClass (top 53) 0
abbrev qC:Stmt:=inClass (top 53) 1
abbrev iD:Stmt:=inClass (top 53) 2
abbrev iT:Stmt:=inClass (top 53) 3
abbrev nQ:Stmt:=inClass (top 53) 6
abbrev nY:Stmt:=top 54
abbrev wQ:Stmt:=top 55
abbrev rA:Stmt:=top 56
abbrev rY:Stmt:=top 66
abbrev rZ:Stmt:=top 68
abbrev pN:Stmt:=top 69
abbrev pO:Stmt:=top 70
abbrev rJ:Stmt:=top 71
abbrev qY:Stmt:=top 72
abbrev iQ:Stmt:=top 73
abbrev mW:Stmt:=top 74
abbrev nC:Stmt:=top 75
abbrev cA:Stmt:=top 76
abbrev uD:Stmt:=top 77
abbrev qJ:Stmt:=top 78
abbrev pZ:Stmt:=top 79
abbrev zL:Stmt:=top 80
structure Txt (mg:Str->Option Value):Prop where
 isinstance:mg "isinstance"=none
 int:mg "int"=none
 bool:mg "bool"=none
 str:mg "str"=none
 tuple:mg "tuple"=none
 list:mg "list"=none
 len:mg "len"=none
 range:mg "range"=none
 enumerate:mg "enumerate"=none
 max:mg "max"=none
 min:mg "min"=none
 sorted:mg "sorted"=none
 sum:mg "sum"=none
 set:mg "set"=none
 all:mg "all"=none
 any:mg "any"=none
 zip:mg "zip"=none
 abs:mg "abs"=none
 dict:mg "dict"=none
 c_GREATEST_NUMBER:∃t,mg "GREATEST_NUMBER"=some (.int 1000000000000 t)
 c_GREATEST_DIVISOR:∃t,mg "GREATEST_DIVISOR"=some (.int 1000000000 t)
 c_GREATEST_BACK:∃t,mg "GREATEST_BACK"=some (.int 3 t)
 c_GREATEST_STEP:∃t,mg "GREATEST_STEP"=some (.int 9 t)
 c_MOST_STEPS_terms:∃t,mg "MOST_STEPS_terms"=some (.int 3 t)
 c_MOST_DEPTH:∃t,mg "MOST_DEPTH"=some (.int 12 t)
 c_MOST_PARTS:∃t,mg "MOST_PARTS"=some (.int 60 t)
 c_MOST_TAKES:∃t,mg "MOST_TAKES"=some (.int 6 t)
 c_GREATEST_MODULUS:∃t,mg "GREATEST_MODULUS"=some (.int 1000000000 t)
 c_MOST_ROUNDS:∃t,mg "MOST_ROUNDS"=some (.int 12 t)
 c_MOST_SPOTS:∃t,mg "MOST_SPOTS"=some (.int 120 t)
 c_GREATEST_FIXED:∃t,mg "GREATEST_FIXED"=some (.int 1000000000 t)
 c_MOST_LINES:∃t,mg "MOST_LINES"=some (.int 3 t)
 c_GREATEST_SIZE:∃t,mg "GREATEST_SIZE"=some (.int 9 t)
 c_MOST_PLACES:∃t,mg "MOST_PLACES"=some (.int 40 t)
 c_MOST_FIGURES:∃t,mg "MOST_FIGURES"=some (.int 13 t)
 c_MOST_STEPS_term_texts:∃t,mg "MOST_STEPS_term_texts"=some (.int 3 t)
 c_MOST_WITHIN:∃t,mg "MOST_WITHIN"=some (.int 12 t)
variable {P:Program} {w:World} {K:Ac} {mg:Str->Option Value} {base:Heap} {f:Addr} {fd:FuncData}
abbrev Fv:=List U->(Sl->Prop)->Prop
def mir (s n:Int):Int:=if n % (2*s)<s then n % (2*s)else 2*s-1-n % (2*s)
def aYz:Fv:=λus R=>∃s n:Int,us=[.n s,.n n]/\0<s/\s<=1000/\R (.sh (.n (mir s n)))
def xJ:aL ["size","number","along"] ["size","number"] (aC uI):=⟨rfl,rfl,rfl,by decide+kernel,rfl,by decide+kernel,by decide+kernel⟩
def aV9 (F:Fun K "mirrored" "mirrored" uI f fd):bB P w K mg base CX0 1 f fd ["size","number"] (spV aYz):=by
 refine vfn F xJ (λcdv A outer s H E hr=>(aD (bD (i:=2) xJ.nd (aU nZ jK (aA 1) (aU lE jK aF (aA 0)))) (aD (cW (bW vW cF (aA 2) (aA 0)) (aG (iM 2)) bK) (aG (aV (aU iC cF (aU iC cF (aU lE jK aF (aA 0)) aF) (aA 2))))))) ?_;rintro _ R ⟨s,n,rfl,h1,h2,q⟩;unfold mir at q;refine⟨rfl,?_⟩;refine⟨.inl (by constructor<;>decide),by show 0<2*s;omega,?_⟩;refine⟨λh=>?_,λh=>?_⟩
 ·rw [if_pos (of_decide_eq_true h)]at q;exact q
 ·rw [if_neg (of_decide_eq_false h)]at q;exact⟨.inl (by constructor<;>decide),q⟩
def aZf:U->Bool
 | .v (.int _)=>true
 |_=>false
def aOi:Fv:=λus R=>∃u t,us=[u]/\tyU u=some t/\R (.sh (.b (aZf u)))
def aFj:aL ["thing"] ["thing"] (aC uC):=⟨rfl,rfl,rfl,by decide+kernel,rfl,by decide+kernel,by decide+kernel⟩
def aLy (F:Fun K "is_whole" "is_whole" uC f fd) (T:Txt mg):bB P w K mg base CX0 1 f fd ["thing"] (spV aOi):=by
 refine vfn F aFj (λcdv A outer s H E hr=>(aG (aV (aEc (rK .int nofun T.isinstance T.int Sb (aA 0)) (aEf (aVz (rK .bl nofun T.isinstance T.bool boot_bool (aA 0)))))))) ?_;rintro _ R ⟨u,t,rfl,ht,q⟩;unfold tyU at ht;split at ht<;>cases ht<;>first|exact⟨rfl,_,rfl,λ_=>⟨_,rfl,q⟩,nofun⟩|exact⟨rfl,_,rfl,nofun,λ_=>q⟩
def isIn (u:U) (a b:Int):Bool:=match u with
 | .v (.int i)=>decide (a<=i) && decide (i<=b)
 |_=>false
def jV:Fv:=λus R=>∃u t a b,us=[u,.n a,.n b]/\tyU u=some t/\R (.sh (.b (isIn u a b)))
def aCx:aL ["thing","least","most"] ["thing","least","most"] (aC rE):=⟨rfl,rfl,rfl,by decide+kernel,rfl,by decide+kernel,by decide+kernel⟩
def aK0 (F:Fun K "is_within" "is_within" rE f fd) (c_is_whole:Cal P w K mg base CX0 1 "is_whole" ["thing"] (spV aOi)):bB P w K mg base CX0 2 f fd ["thing","least","most"] (spV jV):=by
 refine vfn F aCx (λcdv A outer s H E hr=>(aG (aV (aEc (aO c_is_whole (hr.mono (by decide)) rfl (aB (aA 0) aH)) (aEf (aFt uT uT cF cF (aA 1) (aA 0) (aA 2))))))) ?_;rintro _ R ⟨u,t,a,b,rfl,ht,q⟩;refine⟨rfl,u,t,rfl,ht,?_⟩;match u,q with
 | .v (.int i),q=>exact⟨λ_=>⟨λh=>by simp only [isIn,h,Nk]at q;exact q,λh=>by simp only [isIn,h,Hy]at q;exact q⟩,nofun⟩
 | .v .non,q=>exact⟨nofun,λ_=>q⟩
 | .v (.bl _),q=>exact⟨nofun,λ_=>q⟩
 | .v (.str _),q=>exact⟨nofun,λ_=>q⟩
 | .tp _,q=>exact⟨nofun,λ_=>q⟩
 | .ls _,q=>exact⟨nofun,λ_=>q⟩
 | .dk _ _,q=>exact⟨nofun,λ_=>q⟩
inductive Rim where
 |fixed (v:Int)
 |mirror
 |round
def Rim.u:Rim->U
 | .fixed v=> .tp [.s "fixed",.n v]
 | .mirror=> .tp [.s "mirror"]
 | .round=> .tp [.s "round"]
def Rim.ok:Rim->Prop
 | .fixed v=>0<=v/\v<=1000000000
 |_=>True
def aP1:Fv:=λus R=>∃r:Rim,us=[r.u]/\r.ok/\R (.sh (.b true))
abbrev PW3:List Str:=["thing","least","most"]
def aJ9:aL ["thing"] ["thing"] (aC aAc):=⟨rfl,rfl,rfl,by decide+kernel,rfl,by decide+kernel,by decide+kernel⟩
def aNg (F:Fun K "is_rim" "is_rim" aAc f fd) (c_is_within:Cal P w K mg base CX0 2 "is_within" PW3 (spV jV)) (T:Txt mg):bB P w K mg base CX0 3 f fd ["thing"] (spV aP1):=by
 obtain⟨_,g_GREATEST_FIXED⟩:=T.c_GREATEST_FIXED;refine vfn F aJ9 (λcdv A outer s H E hr=>(aD (cW (tR (xH (gF (iG (rK .tp nofun T.isinstance T.tuple Mb (aA 0)))) (qU (bW (lA (huD hr)) jH (bJ aX dO T.len Ek (aP (aA 0) aY)) aF)))) (aG (aV tG)) bK) (aD (cW (gF (iG (rK .str nofun T.isinstance T.str Nf (bU bC bV (aA 0) aF)))) (aG (aV tG)) bK) (aD (cW (bW (lA (huD hr)) jH (bU bC bV (aA 0) aF) bQ) (aG (aV (aEc (aCw (lA (huD hr)) jH (bJ aX dO T.len Ek (aP (aA 0) aY)) aF) (aEf (aO c_is_within (hr.mono (by decide)) rfl (aB (bU bC bV (aA 0) aF) (aB aF (aB (dM g_GREATEST_FIXED) aH)))))))) bK) (aG (aV (aEc (aCw (lA (huD hr)) jH (bJ aX dO T.len Ek (aP (aA 0) aY)) aF) (aEf (aCw (aMu (huD hr)) aE0 (bU bC bV (aA 0) aF) (cY (aB bQ (aB bQ aH)))))))))))) ?_;rintro _ R ⟨r,rfl,ok,q⟩;match r,ok with
 | .fixed v,ok=>
  refine⟨rfl,_,rfl,nofun,λ_=>⟨trivial,trivial,nofun,λ_=>?_⟩⟩;refine⟨_,rfl,_,rfl,nofun,λ_=>?_⟩;refine⟨_,rfl,trivial,trivial,λ_=>?_,λh=>absurd h (by decide+kernel)⟩;refine⟨trivial,trivial,λ_=>⟨_,rfl,_,_,_,_,rfl,rfl,?_⟩,nofun⟩;simp only [isIn,ok.1,ok.2,decide_true,Nk];exact q
 | .mirror,_=>
  refine⟨rfl,_,rfl,nofun,λ_=>⟨trivial,trivial,nofun,λ_=>?_⟩⟩;refine⟨_,rfl,_,rfl,nofun,λ_=>?_⟩;refine⟨_,rfl,trivial,trivial,λh=>absurd h (by decide+kernel),λ_=>?_⟩;refine⟨trivial,trivial,λ_=>⟨_,rfl,trivial,⟨trivial,trivial,trivial⟩,?_⟩,λh=>absurd h (by decide+kernel)⟩;exact Rbl q (by decide+kernel)
 | .round,_=>
  refine⟨rfl,_,rfl,nofun,λ_=>⟨trivial,trivial,nofun,λ_=>?_⟩⟩;refine⟨_,rfl,_,rfl,nofun,λ_=>?_⟩;refine⟨_,rfl,trivial,trivial,λh=>absurd h (by decide+kernel),λ_=>?_⟩;refine⟨trivial,trivial,λ_=>⟨_,rfl,trivial,⟨trivial,trivial,trivial⟩,?_⟩,λh=>absurd h (by decide+kernel)⟩;exact Rbl q (by decide+kernel)
def qR (ns:List Int):Int:=ns.foldl (λa n=>a*n) 1
structure lJ (ns:List Int):Prop where
 ok:∀n∈ns,1<=n/\n<=9
 l1:1<=ns.length
 l3:ns.length<=3
 mn:qR ns<=40
def aNw:Fv:=λus R=>∃ns:List Int,us=[.ls (ns.map U.n)]/\(∀n∈ns,1<=n/\n<=9)/\ns.length<=3/\R (.sh (.n (qR ns)))
def pY:aL ["sizes","many","size"] ["sizes"] (aC wQ):=⟨rfl,rfl,rfl,by decide+kernel,rfl,by decide+kernel,by decide+kernel⟩
def aQj (F:Fun K "product" "product" wQ f fd):bB P w K mg base CX0 1 f fd ["sizes"] (spV aNw):=by
 refine vfn F pY (λcdv A outer s H E hr=>(aD (bD (i:=1) pY.nd aF) (aD (eV Bd rfl (bT (aA 0)) (dR (i:=2) pY.nd) (aG (bD (i:=1) pY.nd (aU lE jK (aA 1) (aA 2))))) (aG (iM 1))))) ?_;rintro _ R ⟨ns,rfl,ok,_,q⟩;refine⟨rfl,?_⟩;refine cC (λl ρ=>∃(ms:List Int) (a:Int) (x y:Sl),l=ms.map U.n/\ρ=[x,.sh (.n a),y]/\(∀n∈ms,1<=n/\n<=9)/\R (.sh (.n (ms.foldl (λa n=>a*n) a)))) ?_ ?_ ⟨ns,1,_,_,rfl,rfl,ok,q⟩
 ·rintro ρ ⟨ms,a,x,y,e,rfl,_,q⟩;obtain rfl:=List.map_eq_nil_iff.mp e.symm;exact q
 ·rintro u r ρ ⟨ms,a,x,y,e,rfl,h,q⟩ ih;obtain⟨n,ms,rfl,rfl,rfl⟩:=List.map_eq_cons_iff.mp e.symm;have hn:=h n Ae;exact⟨.inr ⟨by omega,by omega⟩,ih _ ⟨ms,_,_,_,rfl,rfl,λm hm=>h m (Ad _ hm),q⟩⟩
def grU (C:Addr) (ns:List Int) (rs:List Rim):U:= .ob C ["sizes","rims"] [.ls (ns.map U.n),.ls (rs.map Rim.u)]
def aN3:Fv:=λus R=>∃(ns:List Int) (rs:List Rim),us=[.ls (ns.map U.n),.ls (rs.map Rim.u)]/\(∀n∈ns,1<=n/\n<=9)/\1<=ns.length/\ns.length<=3/\rs.length=ns.length/\(∀r∈rs,r.ok)/\R (.sh .no)
def mG:aL ["sizes","rims","line","rim"] ["sizes","rims"] (aC nY):=⟨rfl,rfl,rfl,by decide+kernel,rfl,by decide+kernel,by decide+kernel⟩
def aM9 (F:Fun K "check_lines" "check_lines" nY f fd) (c_is_within:Cal P w K mg base CX0 2 "is_within" PW3 (spV jV)) (c_is_rim:Cal P w K mg base CX0 3 "is_rim" ["thing"] (spV aP1)) (T:Txt mg):bB P w K mg base CX0 4 f fd ["sizes","rims"] (spV aN3):=by
 obtain⟨_,g_MOST_LINES⟩:=T.c_MOST_LINES;obtain⟨_,g_GREATEST_SIZE⟩:=T.c_GREATEST_SIZE;refine vfn F mG (λcdv A outer s H E hr=>(aD (cW (tR (xH (gF (wB uT uT cF cF aF (bJ aX dO T.len Ek (aP (aA 0) aY)) (dM g_MOST_LINES))) (qU (bW (wX (huD hr)) jH (bJ aX dO T.len Ek (aP (aA 1) aY)) (bJ aX dO T.len Ek (aP (aA 0) aY)))))) (aG mF) bK) (aG (eV Bd rfl (aJl T.enumerate (aB (aA 1) aH)) (aD8 rfl (jW (i:=2) mG.nd (jW (i:=3) mG.nd yO))) (aG (cW (tR (xH (gF (iG (aO c_is_within (hr.mono (by decide)) rfl (aB (bU bC bV (aA 0) (aA 2)) (aB aF (aB (dM g_GREATEST_SIZE) aH)))))) (qU (gF (iG (aO c_is_rim (hr.mono (by decide)) rfl (aB (aA 3) aH))))))) (aG mF) bK)))))) ?_;rintro _ R ⟨ns,rs,rfl,ok,l1,l3,el,rk,q⟩;refine⟨rfl,?_⟩;have e1:(ns.map U.n).length=ns.length:=Ab ..;have e2:(rs.map Rim.u).length=ns.length:=by rw [Ab,el]
 refine⟨λ_=>⟨λh=>?_,λ_=>⟨trivial,trivial,λh=>?_,λ_=>?_⟩⟩,λh=>?_⟩
 ·simp at h;omega
 ·simp only [U.eq,U.d,D.eq,eqV,Sl.rd]at h;simp [el]at h
 ·refine cC (λl ρ=>∃(k:Nat) (ss:List Rim) (x y:Sl),l=(ss.map Rim.u |>.zipIdx k).map (λx=> .tp [.n (x.2:Nat),x.1])/\ρ=[.sh (.ls (ns.map U.n)),.sh (.ls (rs.map Rim.u)),x,y]/\k+ss.length=ns.length/\∀r∈ss,r.ok) ?_ ?_ ⟨0,rs,_,_,rfl,rfl,by omega,rk⟩
  ·rintro ρ ⟨k,ss,x,y,e,rfl,_⟩;exact q
  ·rintro u r ρ ⟨k,ss,x,y,e,rfl,hk,ho⟩ ih;match ss,e,hk,ho with
   |s::ss,e,hk,ho=>
    cases e;have hl:k<ns.length:=by rw [Ah]at hk;omega
    have hn:=ok _ (Eb hl);refine⟨rfl,U.n ns[k],sO (by rw [Az,Ak hl];rfl),_,_,_,_,rfl,rfl,?_⟩;refine⟨λh=>?_,λ_=>⟨s,rfl,ho s Ae,nofun,λ_=>ih _ ⟨k+1,ss,_,_,rfl,rfl,by rw [Ah]at hk;omega,λr hr=>ho r (Ad _ hr)⟩⟩⟩;simp [isIn,hn.1,hn.2]at h
 ·simp at h;omega
def aPq (C:Addr):Fv:=λus R=>∃ns rs,us=[grU C ns rs]/\R (.sh (.n ns.length))
def aBk:aL ["self"] ["self"] (aC qC):=⟨rfl,rfl,rfl,by decide+kernel,rfl,by decide+kernel,by decide+kernel⟩
def aOo {C:Addr} (F:Fun K "lines" "Grid.lines" qC f fd) (cG:Cfl K C ["sizes","rims"]) (T:Txt mg):bB P w K mg base CX0 1 f fd ["self"] (spV (aPq C)):=by
 refine vfn F aBk (λcdv A outer s H E hr=>(aG (aV (bJ aX dO T.len Ek (aP (dI cG (aA 0)) aY))))) ?_;rintro _ R ⟨ns,rs,rfl,q⟩;refine⟨rfl,rfl,.inl ⟨rfl,?_⟩⟩;rw [<-Ab (f:=U.n)]at q;exact q
def aTv (C:Addr):Fv:=λus R=>∃ns rs,us=[grU C ns rs]/\lJ ns/\R (.sh (.n (qR ns)))
def sW:aL ["self"] ["self"] (aC iD):=⟨rfl,rfl,rfl,by decide+kernel,rfl,by decide+kernel,by decide+kernel⟩
def aQm {C:Addr} (F:Fun K "places_many" "Grid.places_many" iD f fd) (cG:Cfl K C ["sizes","rims"]) (c_product:Cal P w K mg base CX0 1 "product" ["sizes"] (spV aNw)):bB P w K mg base CX0 2 f fd ["self"] (spV (aTv C)):=by
 refine vfn F sW (λcdv A outer s H E hr=>(aG (aV (aO c_product (hr.mono (by decide)) rfl (aB (dI cG (aA 0)) aH))))) ?_;rintro _ R ⟨ns,rs,rfl,g,q⟩;exact⟨rfl,rfl,.inl ⟨rfl,ns,rfl,g.ok,g.l3,q⟩⟩
end Q
namespace KR
variable {fd:FuncData} {f:Addr} {z:List Nat} {H H':Hp} {g:Nat} {fs:List (Str×V)} {r:List Nat} {o:HO} {X:Cx} {pos:Pos} {rd:Addr} {a:Addr} {x:Str} {es:List Expr} {p:Addr} {d:Nat}
open PySem PyProof.Rows L2
def top (i:Nat):Stmt:=PySem.Challenge.pw_slanttiles_k32_who_reads_a_spot.main.body.getD i (.Pass ⟨0,0,0,0⟩)
abbrev aOk:Stmt:=top 64
abbrev aAu:Stmt:=top 65
abbrev aHf:Stmt:=inClass (top 23) 0
abbrev aHa:Stmt:=inClass (top 24) 0
abbrev aHe:Stmt:=inClass (top 25) 0
abbrev aGt:Stmt:=inClass (top 31) 0
abbrev aGu:Stmt:=inClass (top 32) 0
abbrev aDd:Stmt:=inClass (top 63) 0
abbrev aAm:Stmt:=inClass (top 63) 1
abbrev aC5:Stmt:=inClass (top 63) 2
abbrev aGq:Stmt:=inClass (top 63) 3
abbrev aDg:Stmt:=inClass (top 63) 4
abbrev aHm:Stmt:=inClass (top 63) 5
abbrev aDj:Stmt:=inClass (top 63) 6
abbrev yU:Stmt:=inClass (top 63) 7
abbrev uN:Stmt:=inClass (top 63) 8
abbrev sV:Stmt:=inClass (top 63) 9
abbrev zB:Stmt:=inClass (top 63) 10
abbrev aBd (n:Nat):V:=V.int (n:Int)
def Kp (a:Addr) (H H':Hp):Prop:=∀b o,H b=some o->b≠a->H' b=some o
def Kp.trans {H H1 H2:Hp} (x:Kp a H H1) (y:Kp a H1 H2):Kp a H H2:=λb o h n=>y b o (x b o h n) n
def Kp.same {H H1 H2:Hp} (x:Kp a H H1) (y:fC H1 H2):Kp a H H2:=λb o h n=>y b o (x b o h n)
def Kp.of (x:fC H H'):Kp a H H':=λb o h _=>x b o h
def sameNew {H:Hp} (h:H p=none):fC H (upd H p o):=λb u e=>by
 rw [aM (aQ e h)];exact e
def jT {H H1:Hp} (h:H p=none) (s:fC H H1):fC H (upd H1 p o):=λb u e=>by
 rw [aM (aQ e h)];exact s b u e
def aSr {H:Hp}:Kp p H (upd H p o):=λb u e n=>by
 rw [aM n];exact e
def small {n:Nat} (h:n<=10000):n<sizeLine:=by
 have:(10000:Nat)<sizeLine:=by decide
 omega
def aX8 {n:String} (hg:Gl X x) (hm:X.mg x=none) (hv:bootBuiltins x=some (.type n)) (hn:x≠"__name__":=by decide) (hd:(x==("__debug__":Str))=false:=by decide):PE X (.Name x pos) (tC (.ty n)):=aJ2 (v:= .ty n) hg hm hv rfl hn hd
structure Txt (K:Ac) (mg:Str->Option Value):Prop where
 isinstance:mg "isinstance"=none
 int:mg "int"=none
 tuple:mg "tuple"=none
 len:mg "len"=none
 any:mg "any"=none
 str:mg "str"=none
 mfi:∃t,mg "MOST_FIGURES"=some (.int 13 t)
 mst2:∃t,mg "MOST_STEPS_term_texts"=some (.int 3 t)
 mwi:∃t,mg "MOST_WITHIN"=some (.int 12 t)
inductive Tm where
 |num (n:Int)
 |take (b:Int) (ss:List Int)
 |rest (t:Tm) (y:Int)
 |cho (a b c:Tm)
 |bin (k:Fin 5) (a b:Tm)
abbrev Tk:Type:=Int×List Int
def opn (k:Fin 5):Str:=match k with|0=>"+"|1=>"-"|2=>"*"|3=>"min"|4=>"max"
structure Cn where
 num:Addr
 take:Addr
 rest:Addr
 cho:Addr
 bin:Fin 5->Addr
def cls (N:Cn):Tm->Addr
 | .num _=>N.num
 | .take _ _=>N.take
 | .rest _ _=>N.rest
 | .cho _ _ _=>N.cho
 | .bin k _ _=>N.bin k
def IsC (N:Cn) (C:Addr):Prop:=C=N.num∨C=N.take∨C=N.rest∨C=N.cho∨∃k,C=N.bin k
def isC (N:Cn):∀t:Tm,IsC N (cls N t)
 | .num _=> .inl rfl
 | .take _ _=> .inr (.inl rfl)
 | .rest _ _=> .inr (.inr (.inl rfl))
 | .cho _ _ _=> .inr (.inr (.inr (.inl rfl)))
 | .bin k _ _=> .inr (.inr (.inr (.inr ⟨k,rfl⟩)))
def kI (N:Cn) (H:Hp) (fs:List (Str×V)):Tm->Prop
 | .num n=>fs=[(("value":Str),V.int n)]
 | .take b ss=>∃q,fs=[(("back":Str),V.int b),(("steps":Str),V.ref q)]/\H q=some (.tup (ss.map V.int))
 | .rest t y=>∃p dx gs,fs=[(("one":Str),V.ref p),(("by":Str),V.int y)]/\H p=some (.ins (cls N t) dx gs)/\kI N H gs t
 | .cho a b c=>∃p dp ps q dq qs r dr rs,fs=[(("test":Str),V.ref p),(("one":Str),V.ref q),(("other":Str),V.ref r)]/\(H p=some (.ins (cls N a) dp ps)/\kI N H ps a)/\(H q=some (.ins (cls N b) dq qs)/\kI N H qs b)/\H r=some (.ins (cls N c) dr rs)/\kI N H rs c
 | .bin _ a b=>∃p dp ps q dq qs,fs=[(("one":Str),V.ref p),(("other":Str),V.ref q)]/\(H p=some (.ins (cls N a) dp ps)/\kI N H ps a)/\H q=some (.ins (cls N b) dq qs)/\kI N H qs b
def KpN (H H':Hp):Prop:=∀c o,H c=some o->(∀xs,o≠ .lst xs)->H' c=some o
def KpN.of (s:fC H H'):KpN H H':=λc o e _=>s c o e
def kI.keep {N:Cn} (s:KpN H H'):∀{t:Tm} {fs:List (Str×V)},kI N H fs t->kI N H' fs t
 | .num _,_,h=>h
 | .take _ _,_,⟨q,e,h⟩=>⟨q,e,s _ _ h (by intro _ z;cases z)⟩
 | .rest _ _,_,⟨p,dx,gs,e,h,h2⟩=>⟨p,dx,gs,e,s _ _ h (by intro _ z;cases z),h2.keep s⟩
 | .cho _ _ _,_,⟨p,dp,ps,q,dq,qs,r,dr,rs,e,⟨h1,g1⟩,⟨h2,g2⟩,h3,g3⟩=>⟨p,dp,ps,q,dq,qs,r,dr,rs,e,⟨s _ _ h1 (by intro _ z;cases z),g1.keep s⟩,⟨s _ _ h2 (by intro _ z;cases z),g2.keep s⟩,s _ _ h3 (by intro _ z;cases z),g3.keep s⟩
 | .bin _ _ _,_,⟨p,dp,ps,q,dq,qs,e,⟨h1,g1⟩,h2,g2⟩=>⟨p,dp,ps,q,dq,qs,e,⟨s _ _ h1 (by intro _ z;cases z),g1.keep s⟩,s _ _ h2 (by intro _ z;cases z),g2.keep s⟩
def kI.same {N:Cn} (s:fC H H') {t:Tm} (h:kI N H fs t):kI N H' fs t:=h.keep (KpN.of s)
def lK (N:Cn) (H:Hp) (t:Tm) (v:V):Prop:=∃p dx fs,v= .ref p/\H p=some (.ins (cls N t) dx fs)/\kI N H fs t
def kids:Tm->List Tm
 | .num _=>[]
 | .take _ _=>[]
 | .rest t _=>[t]
 | .cho a b c=>[a,b,c]
 | .bin _ a b=>[a,b]
def ht:Tm->Nat
 | .num _=>1
 | .take _ _=>1
 | .rest t _=>ht t+1
 | .cho a b c=>max (ht a) (max (ht b) (ht c))+1
 | .bin _ a b=>max (ht a) (ht b)+1
def dG:Tm->Nat
 | .num _=>1
 | .take _ _=>1
 | .rest t _=>1+dG t
 | .cho a b c=>1+(dG a+(dG b+dG c))
 | .bin _ a b=>1+(dG a+dG b)
def raw:Tm->List Tk
 | .num _=>[]
 | .take b ss=>[(b,ss)]
 | .rest t _=>raw t
 | .cho a b c=>raw a++(raw b++raw c)
 | .bin _ a b=>raw a++raw b
def pI:∀t,0<ht t
 | .num _=>Pu
 | .take _ _=>Pu
 | .rest _ _=>Jk _
 | .cho _ _ _=>Jk _
 | .bin _ _ _=>Jk _
def aA6:∀{t k:Tm},k∈kids t->ht k<ht t
 | .rest t _,k,h=>by rw [List.mem_singleton.mp h,ht];omega
 | .cho a b c,k,h=>by
  simp only [kids,Ca,Bm,or_false]at h;rw [ht];rcases h with rfl|rfl|rfl<;>omega
 | .bin _ a b,k,h=>by
  simp only [kids,Ca,Bm,or_false]at h;rw [ht];rcases h with rfl|rfl<;>omega
def yW (t:Tm):(kids t).length<=3:=by cases t<;>simp [kids]
def aI3:∀{t k:Tm},k∈kids t->∀x∈raw k,x∈raw t
 | .rest t _,k,h,x,hx=>by rw [List.mem_singleton.mp h]at hx;exact hx
 | .cho a b c,k,h,x,hx=>by
  simp only [kids,Ca,Bm,or_false]at h;simp only [raw,Gi];rcases h with rfl|rfl|rfl
  ·exact .inl hx
  ·exact .inr (.inl hx)
  ·exact .inr (.inr hx)
 | .bin _ a b,k,h,x,hx=>by
  simp only [kids,Ca,Bm,or_false]at h;simp only [raw,Gi];rcases h with rfl|rfl
  ·exact .inl hx
  ·exact .inr hx
def qT (t:Tm) (l:List Tk):Prop:=l.Pairwise (λx y=>mO x y=true)/\∀x,x∈l↔x∈raw t
def aB4 {x y:Tk} (h:mO x y=true):mO y x=false:=by
 unfold mO at h⊢;by_cases e:x.1=y.1
 ·rw [if_pos e]at h;rw [if_pos e.symm];exact aBq _ _ h
 ·rw [if_neg e,decide_eq_true_iff]at h;rw [if_neg (Cy e),decide_eq_false_iff_not];omega
theorem aEr:∀{l m:List Tk},l.Pairwise (λx y=>mO x y=true)->m.Pairwise (λx y=>mO x y=true)->(∀x,x∈l↔x∈m)->l=m
 | [],[],_,_,_=>rfl
 | [],b::m,_,_,h=>absurd ((h b).mpr Ae) (by simp)
 |a::l,[],_,_,h=>absurd ((h a).mp Ae) (by simp)
 |a::l,b::m,h1,h2,h=>by
  have ha:=List.pairwise_cons.mp h1;have hb:=List.pairwise_cons.mp h2;have O:∀x y:Tk,mO x y=true->mO y x=false:=λx y=>aB4;have irr:∀x:Tk,mO x x=true->False:=λx hx=>by have:=O x x hx;rw [hx]at this;cases this
  have e:a=b:=by
   rcases List.mem_cons.mp ((h a).mp Ae)with z|z
   ·exact z
   ·rcases List.mem_cons.mp ((h b).mpr Ae)with y|y
    ·exact y.symm
    ·have:=O _ _ (ha.1 b y);rw [hb.1 a z]at this;cases this
  subst e;rw [aEr ha.2 hb.2 λx=>⟨λhx=>?_,λhx=>?_⟩]
  ·rcases List.mem_cons.mp ((h x).mp (Ad _ hx))with z|z
   ·exact(irr a (by have:=ha.1 x hx;rw [z]at this;exact this)).elim
   ·exact z
  ·rcases List.mem_cons.mp ((h x).mpr (Ad _ hx))with z|z
   ·exact(irr a (by have:=hb.1 x hx;rw [z]at this;exact this)).elim
   ·exact z
def qT.uniq {t:Tm} {l m:List Tk} (h1:qT t l) (h2:qT t m):l=m:=aEr h1.1 h2.1 λx=>(h1.2 x).trans (h2.2 x).symm
def vV (x:Tk):Prop:=1<=x.1/\x.1<=3/\∀s∈x.2, -9<=s/\s<=9
def Wf:Tm->Prop
 | .num n=> -1000000000000<=n/\n<=1000000000000
 | .take _ _=>True
 | .rest t y=>1<=y/\y<=1000000000/\Wf t
 | .cho a b c=>Wf a/\Wf b/\Wf c
 | .bin _ a b=>Wf a/\Wf b
structure Cf (K:Ac) (C:Addr) (fs:List Str):Prop where
 cl:Cls K C
 na:∀f∈fs,kY K C f
inductive aTf (K:Ac) (a:Str) (vs:List V) (H:Hp) (Q:VK) (z3_:XK):Prop
 |mk (p C dx:Addr) (x:V) (q0_:vs=[.ref p,x]) (q1_:H p=some (.ins C dx [])) (q2_:Cf K C [a]) (q3_:Q .non (upd H p (.ins C dx [(a,x)]))):aTf K a vs H Q z3_
def aX1 (K:Ac) (a:Str):Sp:=λvs H Q z3_=>aTf K a vs H Q z3_
inductive aSn (K:Ac) (a b:Str) (vs:List V) (H:Hp) (Q:VK) (z3_:XK):Prop
 |mk (p C dx:Addr) (x y:V) (q0_:vs=[.ref p,x,y]) (q1_:H p=some (.ins C dx [])) (q2_:Cf K C [a,b]) (q3_:Q .non (upd (upd H p (.ins C dx [(a,x)])) p (.ins C dx [(a,x),(b,y)]))):aSn K a b vs H Q z3_
def aCy (K:Ac) (a b:Str):Sp:=λvs H Q z3_=>aSn K a b vs H Q z3_
inductive aT0 (K:Ac) (a b c:Str) (vs:List V) (H:Hp) (Q:VK) (z3_:XK):Prop
 |mk (p C dx:Addr) (x y z:V) (q0_:vs=[.ref p,x,y,z]) (q1_:H p=some (.ins C dx [])) (q2_:Cf K C [a,b,c]) (q3_:Q .non (upd (upd (upd H p (.ins C dx [(a,x)])) p (.ins C dx [(a,x),(b,y)])) p (.ins C dx [(a,x),(b,y),(c,z)]))):aT0 K a b c vs H Q z3_
def aYm (K:Ac) (a b c:Str):Sp:=λvs H Q z3_=>aT0 K a b c vs H Q z3_
variable {P:Program} {w:World} {K:Ac} {mg:Str->Option Value} {base:Heap}
def aRj:aL ["self","value"] ["self","value"] (aC aHf):=⟨rfl,rfl,rfl,by decide+kernel,rfl,by decide+kernel,by decide+kernel⟩
def aMi (F:Fun K "__init__" "Number.__init__" aHf f fd):bB P w K mg base CX0 1 f fd ["self","value"] (aX1 K "value"):=by
 refine F.ok aRj (λvs H Q E h=>?_) (λcdv A outer s H vs Q E hr h=>?_)
 ·obtain⟨p,C,dx,x,rfl,_⟩:=h;rfl
 ·obtain⟨p,C,dx,x,rfl,hp,c,q⟩:=h;refine⟨_,(aR (dF (pv 0) (pv 1) rfl)),?_⟩;exact⟨_,rfl,_,rfl,p,C,dx,_,rfl,hp,c.cl,c.na _ (by simp),by decide,q⟩
def aQ8:aL ["self","back","steps"] ["self","back","steps"] (aC aHa):=⟨rfl,rfl,rfl,by decide+kernel,rfl,by decide+kernel,by decide+kernel⟩
def aL5 (F:Fun K "__init__" "Take.__init__" aHa f fd):bB P w K mg base CX0 1 f fd ["self","back","steps"] (aCy K "back" "steps"):=by
 refine F.ok aQ8 (λvs H Q E h=>?_) (λcdv A outer s H vs Q E hr h=>?_)
 ·obtain⟨p,C,dx,x,y,rfl,_⟩:=h;rfl
 ·obtain⟨p,C,dx,x,y,rfl,hp,c,q⟩:=h;refine⟨_,(aK (dF (pv 0) (pv 1) rfl) (aR (dF (pv 0) (pv 2) rfl))),?_⟩;refine⟨_,rfl,_,rfl,p,C,dx,_,rfl,hp,c.cl,c.na _ (by simp),by decide,?_⟩;exact⟨_,rfl,_,rfl,p,C,dx,_,rfl,aJ,c.cl,c.na _ (by simp),by show(1:Nat)<1000;decide,q⟩
def aQ4:aL ["self","one","other"] ["self","one","other"] (aC aHe):=⟨rfl,rfl,rfl,by decide+kernel,rfl,by decide+kernel,by decide+kernel⟩
def rC (F:Fun K "__init__" "Paired.__init__" aHe f fd):bB P w K mg base CX0 1 f fd ["self","one","other"] (aCy K "one" "other"):=by
 refine F.ok aQ4 (λvs H Q E h=>?_) (λcdv A outer s H vs Q E hr h=>?_)
 ·obtain⟨p,C,dx,x,y,rfl,_⟩:=h;rfl
 ·obtain⟨p,C,dx,x,y,rfl,hp,c,q⟩:=h;refine⟨_,(aK (dF (pv 0) (pv 1) rfl) (aR (dF (pv 0) (pv 2) rfl))),?_⟩;refine⟨_,rfl,_,rfl,p,C,dx,_,rfl,hp,c.cl,c.na _ (by simp),by decide,?_⟩;exact⟨_,rfl,_,rfl,p,C,dx,_,rfl,aJ,c.cl,c.na _ (by simp),by show(1:Nat)<1000;decide,q⟩
def aQv:aL ["self","one","by"] ["self","one","by"] (aC aGt):=⟨rfl,rfl,rfl,by decide+kernel,rfl,by decide+kernel,by decide+kernel⟩
def aM5 (F:Fun K "__init__" "Rest.__init__" aGt f fd):bB P w K mg base CX0 1 f fd ["self","one","by"] (aCy K "one" "by"):=by
 refine F.ok aQv (λvs H Q E h=>?_) (λcdv A outer s H vs Q E hr h=>?_)
 ·obtain⟨p,C,dx,x,y,rfl,_⟩:=h;rfl
 ·obtain⟨p,C,dx,x,y,rfl,hp,c,q⟩:=h;refine⟨_,(aK (dF (pv 0) (pv 1) rfl) (aR (dF (pv 0) (pv 2) rfl))),?_⟩;refine⟨_,rfl,_,rfl,p,C,dx,_,rfl,hp,c.cl,c.na _ (by simp),by decide,?_⟩;exact⟨_,rfl,_,rfl,p,C,dx,_,rfl,aJ,c.cl,c.na _ (by simp),by show(1:Nat)<1000;decide,q⟩
def aRc:aL ["self","test","one","other"] ["self","test","one","other"] (aC aGu):=⟨rfl,rfl,rfl,by decide+kernel,rfl,by decide+kernel,by decide+kernel⟩
def aNz (F:Fun K "__init__" "Chosen.__init__" aGu f fd):bB P w K mg base CX0 1 f fd ["self","test","one","other"] (aYm K "test" "one" "other"):=by
 refine F.ok aRc (λvs H Q E h=>?_) (λcdv A outer s H vs Q E hr h=>?_)
 ·obtain⟨p,C,dx,x,y,z,rfl,_⟩:=h;rfl
 ·obtain⟨p,C,dx,x,y,z,rfl,hp,c,q⟩:=h;refine⟨_,(aK (dF (pv 0) (pv 1) rfl) (aK (dF (pv 0) (pv 2) rfl) (aR (dF (pv 0) (pv 3) rfl)))),?_⟩;refine⟨_,rfl,_,rfl,p,C,dx,_,rfl,hp,c.cl,c.na _ (by simp),by decide,?_⟩;refine⟨_,rfl,_,rfl,p,C,dx,_,rfl,aJ,c.cl,c.na _ (by simp),by show(1:Nat)<1000;decide,?_⟩;exact⟨_,rfl,_,rfl,p,C,dx,_,rfl,aJ,c.cl,c.na _ (by simp),by show(2:Nat)<1000;decide,q⟩
structure Mkr (P:Program) (w:World) (K:Ac) (mg:Str->Option Value) (base:Heap) (C:Addr) (x:Str) (ps:List Str) (sp:Sp):Prop where
 ex:∃f fd,bB P w K mg base CX0 1 f fd ps sp/\Mk K C f/\mg x=some (.ref C)/\Binds K fd ps []
def tK {C:Addr} {ps:List Str} {sp:Sp} {E:XK} {e:Expr} {t:TA} {p pos:Pos} (R:Mkr X.prog X.w X.K X.mg X.base C x ps sp) (hr:dH 2 X.A) (hg:Gl X x) (hx:pH CX0 X E) (ha:PA X (e::es) t)
  (hdb:(x==("__debug__":Str))=false:=by decide) (he:starEach (e::es) X.env=(false,eval e X.env)::starEach es X.env:=by rfl) (hpl:(backTo pos (starEach es X.env)).any (·.1)=false:=by rfl):PE X (.Call (.Name x p) (e::es) [] pos) (aS8 C sp [] E t):=by
 obtain⟨f,fd,F,M,hm,hb⟩:=R.ex;exact aIu M F hr hg hm hb .nil hx ha hdb he hpl
def sF {a b:Str} (h:a≠b:=by decide+kernel):decide (V.str a=V.str b)=false:=decide_eq_false λz=>h (V.str.inj z)
def bnm (k:Fin 5):Str:=match k with|0=>"Added"|1=>"Lessened"|2=>"Multiplied"|3=>"Least"|4=>"Most"
def aGr {H:Hp} {x dx C:Addr} (nx:H x=none) (nd:H dx=none):fC H (upd (upd (upd H dx (.own x)) x (.ins C dx [])) x (.ins C dx fs)):=jT nx (jT nx (jT nd (fC.refl H)))
def rM {N:Cn} {K:Ac} {H H1:Hp} {k:Fin 5} {t1 t2:Tm} {v1 v2:V} {Q:VK} {E:XK} (c:Cf K (N.bin k) ["one","other"]) (u1:lK N H1 t1 v1) (u2:lK N H1 t2 v2) (s:fC H H1) (q:∀(v':V) (H':Hp),fC H H'->lK N H' (.bin k t1 t2) v'->Q v' H'):
  ∀x dx,H1 x=none->H1 dx=none->dx≠x->aCy K "one" "other" (.ref x::([v1,v2]++[])) (upd (upd H1 dx (.own x)) x (.ins (N.bin k) dx [])) (λv H2=>v= .non/\Q (.ref x) H2) E:=by
 intro x dx nx nd ne;obtain⟨p1,d1,f1,rfl,h1,g1⟩:=u1;obtain⟨p2,d2,f2,rfl,h2,g2⟩:=u2;refine⟨x,N.bin k,dx,.ref p1,.ref p2,rfl,aJ,c,rfl,?_⟩;have sN:fC H1 (upd (upd (upd (upd H1 dx (.own x)) x (.ins (N.bin k) dx [])) x (.ins (N.bin k) dx [("one",.ref p1)])) x (.ins (N.bin k) dx [("one",.ref p1),("other",.ref p2)])):=jT nx (aGr nx nd);exact q _ _ (s.trans sN) ⟨x,dx,_,rfl,aJ,p1,d1,f1,p2,d2,f2,rfl,⟨sN _ _ h1,g1.same sN⟩,sN _ _ h2,g2.same sN⟩
def aVl:∀{t k:Tm},k∈kids t->Wf t->Wf k
 | .rest t _,k,h,w=>by rw [List.mem_singleton.mp h];exact w.2.2
 | .cho a b c,k,h,w=>by
  simp only [kids,Ca,Bm,or_false]at h;rcases h with rfl|rfl|rfl
  ·exact w.1
  ·exact w.2.1
  ·exact w.2.2
 | .bin _ a b,k,h,w=>by
  simp only [kids,Ca,Bm,or_false]at h;rcases h with rfl|rfl
  ·exact w.1
  ·exact w.2
def aIx {n:Nat} (h:n<=9000):n<=sizeLine:=by rw [Cr];omega
def Kp.upd {a q:Addr} (k:Kp a H H') (hq:H q=none):Kp a H (upd H' q o):=λb u e n=>by
 rw [aM (aQ e hq)];exact k b u e n
def aU2 {i j:Str} {l m:List Nat} {H:Hp} {Q:VK} (h1:i=tx l) (h2:j=tx m) (hz:l.length+m.length<=9000) (q:Q (.str (tx (l++m))) H):aT1 (.str i) (.str j) H Q:=by
 subst h1 h2;exact⟨_,_,rfl,rfl,by rw [gK,gK];exact aIx hz,by rw [gH];exact q⟩
def aDt {α:Type} {f:α->V} {l:List α} {i:Nat} {x:V} (h:(l.map f)[i]? =some x):∃n,x=f n/\l[i]? =some n:=by
 rw [Az]at h;cases g:l[i]? with
 |none=>rw [g]at h;cases h
 |some b=>rw [g]at h;cases h;exact⟨b,rfl,rfl⟩
def lG {c:Bool} {a b:Prop} (h:c=true) (x:a):if c=true then a else b:=by rw [if_pos h];exact x
def fO {c:Bool} {a b:Prop} (h:c=false) (x:b):if c=true then a else b:=by rw [if_neg (by rw [h];exact Aj)];exact x
def aDy {i:Int} {t:Tok} (hg:Gl X x) (hm:X.mg x=some (.int i t)) (hd:(x==("__debug__":Str))=false:=by decide):PE X (.Name x pos) (tC (.int i)):=zE (v:= .int i) hg hm ⟨_,rfl⟩ hd
def dg (m:Nat):List Nat:=(Kz 10 m).map Char.toNat
def aM6:∀d:Nat,d<10->(Oa d).toNat=48+d:=by decide
def aF7 {m:Nat} (h:m<10):dg m=[48+m]:=by
 unfold dg;rw [Nz h];show [(Oa m).toNat]=_;rw [aM6 m h]
def aOp {m:Nat} (h:10<=m):dg m=dg (m / 10)++[48+m % 10]:=by
 have hm:m % 10<10:=Ku m (by decide);have t:Kz 10 (m / 10)++Kz 10 (m % 10)=Kz 10 (10*(m / 10)+m % 10):=Nat.toDigits_append_toDigits (by decide) (by omega) hm;rw [Nat.div_add_mod]at t;unfold dg;rw [<-t,Ay,Nz hm];show _++[(Oa (m % 10)).toNat]=_;rw [aM6 _ hm]
def aVw (m:Nat):Ox (dg m):=by
 induction m using Mf with
 |_ m ih=>
  by_cases h:m<10
  ·rw [aF7 h];intro c hc;rw [List.mem_singleton.mp hc];omega
  ·rw [aOp (by omega)];intro c hc;rcases List.mem_append.mp hc with z|z
   ·exact ih (m / 10) (by omega) c z
   ·rw [List.mem_singleton.mp z];omega
def aUe (m:Nat):Kd (dg m)=m:=W.KIN.val_back m
def vP (m:Nat) (h:0<m):∃c r,dg m=c::r/\49<=c/\c<=57:=by
 induction m using Mf with
 |_ m ih=>
  by_cases h10:m<10
  ·exact⟨_,_,aF7 h10,by omega,by omega⟩
  ·obtain⟨c,r,e,h1,h2⟩:=ih (m / 10) (by omega) (by omega);exact⟨c,r++[48+m % 10],by rw [aOp (by omega),e];rfl,h1,h2⟩
theorem aEd:∀(k m:Nat),m<10 ^ (k+1)->(dg m).length<=k+1
 |0,m,h=>by rw [aF7 (by simpa using h)];exact Am _
 |k+1,m,h=>by
  by_cases h10:m<10
  ·rw [aF7 h10];show 1<=_;omega
  ·rw [aOp (by omega),Ag];have:=aEd k (m / 10) (by rw [Vc]at h;omega);show _+1<=_;omega
def yX:dg 0=[48]:=aF7 (by decide)
def yV (m:Nat):itx (m:Int)=dg m:=Qr m
def aD2 (m:Nat):itx (Vw m)=45::dg (m+1):=by
 have e:=Qr (m+1);have h:toString (Vw m)="-"++toString (((m+1:Nat):Int)):=rfl;unfold itx;rw [h];have:∀a b:String,(Au (a++b)).cps.toList=(Au a).cps.toList++(Au b).cps.toList:=λa b=>by
  rw [Om,Om,Om,String.toList_append,Ay]
 rw [this,e];rfl
def sH {n:Int} (h:n.natAbs<10 ^ 13):(itx n).length<=14:=by
 cases n with
 |ofNat m=>rw [show Rv m=(m:Int)from rfl,yV];have:=aEd 12 m h;omega
 |negSucc m=>rw [aD2,Ah];have:=aEd 12 (m+1) (by simpa using h);omega
def wJ {n:Int} (h:n.natAbs<10 ^ 13):n.natAbs.log2<1920:=by
 by_cases z:n.natAbs=0
 ·rw [z];decide
 ·exact(Vu z).mpr (Hv h (by
   have:(10:Nat) ^ 13<2 ^ 50:=by decide
   exact Bf this (Nat.pow_le_pow_right (by decide) (by decide))))
def sgn (x:Str):List Nat:=x.cps.toList
def txt:Tm->List Nat
 | .num n=>itx n
 | .take b ss=>91::(glu [32] (itx b::ss.map itx)++[93])
 | .rest t y=>40::(txt t++([32,114,101,115,116,32]++(itx y++[41])))
 | .cho a b c=>40::(txt a++([32,63,32]++(txt b++([32,58,32]++(txt c++[41])))))
 | .bin k a b=>40::(txt a++(32::(sgn (opn k)++(32::(txt b++[41])))))
def lU (t:Tm):Prop:=Wf t/\∀x∈raw t,vV x/\1<=x.2.length/\x.2.length<=3
def bN {x:String} (l:List Nat) (h:(Au x).cps.toList=l):Au x=tx l:=by rw [aFo (Au x),h]
def aI0 (k:Fin 5):(sgn (opn k)).length<=3:=by
 match k with
 |0=>decide
 |1=>decide
 |2=>decide
 |3=>decide
 |4=>decide
theorem aC1 (sep:List Nat):∀(ls:List (List Nat)) (m:Nat),(∀l∈ls,l.length<=m)->(glu sep ls).length<=ls.length*(m+sep.length)
 | [],_,_=>Bb _
 | [x],m,h=>by
  have:=h x Ae;show x.length<=1*(m+sep.length);omega
 |x::y::r,m,h=>by
  have h1:=h x Ae;have h2:=aC1 sep (y::r) m λl hl=>h l (Ad _ hl);rw [glu,Ag,Ag,Ah,Va];omega
def uB {s:Int} (h: -9<=s/\s<=9):s.natAbs<10 ^ 13:=by omega
theorem nF:∀{t:Tm},lU t->(txt t).length<=70*dG t
 | .num n,h=>by
  have h1:=h.1;have:=sH (n:=n) (by simp only [Wf]at h1;omega);show(itx n).length<=70*1;omega
 | .take b ss,h=>by
  obtain⟨⟨h1,h2,h3⟩,h4,h5⟩:=h.2 (b,ss) Ae;have:(glu [32] (itx b::ss.map itx)).length<=(itx b::ss.map itx).length*(14+1):=aC1 [32] _ 14 λl hl=>by
   rcases List.mem_cons.mp hl with rfl|hl
   ·exact sH (by simp only at h1 h2;omega)
   ·obtain⟨s,hs,rfl⟩:=List.mem_map.mp hl;exact sH (uB (h3 s hs))
  rw [Ah,Ab]at this;show(glu [32] (itx b::ss.map itx)++[93]).length+1<=70*1;rw [Ag];simp only at h4 h5;show _+1+1<=_;omega
 | .rest t y,h=>by
  have h1:=h.1;have i1:=nF (t:=t) ⟨h1.2.2,h.2⟩;have:=sH (n:=y) (by have:=h1.1;have:=h1.2.1;omega);simp only [txt,dG,Ah,Ag,Be];omega
 | .cho a b c,h=>by
  have h1:=h.1;have i1:=nF (t:=a) ⟨h1.1,λx hx=>h.2 x (by simp [raw,hx])⟩;have i2:=nF (t:=b) ⟨h1.2.1,λx hx=>h.2 x (by simp [raw,hx])⟩;have i3:=nF (t:=c) ⟨h1.2.2,λx hx=>h.2 x (by simp [raw,hx])⟩;simp only [txt,dG,Ah,Ag,Be];omega
 | .bin k a b,h=>by
  have h1:=h.1;have i1:=nF (t:=a) ⟨h1.1,λx hx=>h.2 x (by simp [raw,hx])⟩;have i2:=nF (t:=b) ⟨h1.2,λx hx=>h.2 x (by simp [raw,hx])⟩;have:=aI0 k;simp only [txt,dG,Ah,Ag,Be];omega
def lU.kid {t k:Tm} (h:k∈kids t) (a:lU t):lU k:=⟨aVl h a.1,λx hx=>a.2 x (aI3 h x hx)⟩
def aRz {x z:Str} {t:Tok} (hg:Gl X x) (hm:X.mg x=some (.str z t)) (hd:(x==("__debug__":Str))=false:=by decide):PE X (.Name x pos) (tC (.str z)):=zE (v:= .str z) hg hm ⟨_,rfl⟩ hd
def aJ1 (hg:Gl X x) (hm:X.mg x=some (.ref a)) (hd:(x==("__debug__":Str))=false:=by decide):PE X (.Name x pos) (tC (.ref a)):=zE (v:= .ref a) hg hm rfl hd
def gJ (CR:Addr) (H:Hp) (rd:Addr) (z:List Nat) (g:Nat):Prop:=∃dx,H rd=some (.ins CR dx [(("text":Str),V.str (tx z)),(("gone":Str),aBd g)])
def gJ.same {CR:Addr} (s:fC H H') (h:gJ CR H rd z g):gJ CR H' rd z g:=let⟨dx,e⟩:=h;⟨dx,s _ _ e⟩
def dig (c:Nat):Bool:=decide (48<=c/\c<=57)
def rQ (z:List Nat) (g:Nat):Bool:=match z[g]? with|some c=>dig c|none=>false
inductive aGl (CR:Addr) (vs:List V) (H:Hp) (Q:VK) (z3_:XK):Prop
 |mk (rd:Addr) (z:List Nat) (g:Nat) (q0_:vs=[.ref rd]) (q1_:gJ CR H rd z g) (q2_:z.length<=9000) (q3_:Q (.str (tx ((z.drop g).take 1))) H):aGl CR vs H Q z3_
def lL (CR:Addr):Sp:=λvs H Q z3_=>aGl CR vs H Q z3_
inductive aJq (CR:Addr) (vs:List V) (H:Hp) (Q:VK) (z3_:XK):Prop
 |mk (rd:Addr) (z w:List Nat) (g:Nat) (r:List Nat) (q0_:vs=[.ref rd,.str (tx w)]) (q1_:gJ CR H rd z g) (q2_:z.length<=9000) (q3_:(∀c∈w,c<128)) (q4_:z.drop g=w++r) (q5_:∀H',Kp rd H H'->gJ CR H' rd z (g+w.length)->Q .non H'):aJq CR vs H Q z3_
def qZ (CR:Addr):Sp:=λvs H Q z3_=>aJq CR vs H Q z3_
inductive aQc (CR:Addr) (vs:List V) (H:Hp) (Q:VK) (z3_:XK):Prop
 |mk (rd:Addr) (z:List Nat) (g:Nat) (q0_:vs=[.ref rd]) (q1_:gJ CR H rd z g) (q2_:z.length<=9000) (q3_:Q (.bl (rQ z g)) H):aQc CR vs H Q z3_
def aSz (CR:Addr):Sp:=λvs H Q z3_=>aQc CR vs H Q z3_
def NoD (r:List Nat):Prop:=∀c s,r=c::s->dig c=false
inductive aJ4 (CR:Addr) (vs:List V) (H:Hp) (Q:VK) (z3_:XK):Prop
 |mk (rd:Addr) (z:List Nat) (g m:Nat) (r:List Nat) (q0_:vs=[.ref rd]) (q1_:gJ CR H rd z g) (q2_:z.length<=9000) (q3_:z.drop g=dg m++r) (q4_:NoD r) (q5_:m<10 ^ 13) (q6_:∀H',Kp rd H H'->gJ CR H' rd z (g+(dg m).length)->Q (aBd m) H'):aJ4 CR vs H Q z3_
def aD0 (CR:Addr):Sp:=λvs H Q z3_=>aJ4 CR vs H Q z3_
inductive aI4 (CR:Addr) (vs:List V) (H:Hp) (Q:VK) (z3_:XK):Prop
 |mk (rd:Addr) (z:List Nat) (g:Nat) (n:Int) (r:List Nat) (q0_:vs=[.ref rd]) (q1_:gJ CR H rd z g) (q2_:z.length<=9000) (q3_:z.drop g=itx n++r) (q4_:NoD r) (q5_:n.natAbs<10 ^ 13) (q6_:∀H',Kp rd H H'->gJ CR H' rd z (g+(itx n).length)->Q (.int n) H'):aI4 CR vs H Q z3_
def aD1 (CR:Addr):Sp:=λvs H Q z3_=>aI4 CR vs H Q z3_
def take1 {g c:Nat} (h:z.drop g=c::r):(z.drop g).take 1=[c]:=by rw [h];rfl
def yR {g c:Nat} (h:z.drop g=c::r):z[g]? =some c:=by
 have:=Px (xs:=z) (i:=g) (j:=0);rw [h]at this;simpa using this.symm
def cR {w r:List Nat} (h:z.drop g=w++r):z.drop (g+w.length)=r:=by
 rw [<-Js,h,Ru]
def aL6:∀c:Nat,c∈sgn "0123456789"↔dig c=true:=by
 intro c;unfold dig;rw [decide_eq_true_iff,show sgn "0123456789"=[48,49,50,51,52,53,54,55,56,57]from rfl];simp only [Ca,Bm,or_false];omega
def aA7 {x:String} {l:List Nat} (h:(Au x).cps.toList=l):[V.ref rd,V.str (Au x)]=[V.ref rd,V.str (tx l)]:=by rw [bN l h]
abbrev FR:List Str:=["text","gone"]
abbrev DR (P:Program) (w:World) (K:Ac) (mg:Str->Option Value) (base:Heap) (k:Nat) (CR:Addr) (m:Str) (ps:List Str) (sp:Sp):Prop:=Dis P w K mg base CX0 k (·=CR) m ps (λ_=>sp)
section
variable {P:Program} {w:World} {K:Ac} {mg:Str->Option Value} {base:Heap} {CR:Addr}
def aK1:aL ["self"] ["self"] (aC aAm):=⟨rfl,rfl,rfl,by decide+kernel,rfl,by decide+kernel,by decide+kernel⟩
def aMk (F:Fun K "ahead" "TermReader.ahead" aAm f fd) (c:Cf K CR FR):bB P w K mg base CX0 1 f fd ["self"] (lL CR):=by
 refine F.ok aK1 (λvs H Q E h=>?_) (λcdv A outer s H vs Q E hr h=>?_)
 ·obtain⟨rd,z,g,rfl,_⟩:=h;rfl
 ·obtain⟨rd,z,g,rfl,⟨dx,hp⟩,zl,q⟩:=h;refine⟨_,(aR (cQ (aEt aOr (mK (pv 0) rfl) (yP (mK (pv 0) rfl)) (yP (qN uM (mK (pv 0) rfl) dX))))),?_⟩;have q':Q (.str (tx ((z.drop g).take (g+1-g)))) H:=by rw [show g+1-g=1 by omega];exact q
  exact⟨_,rfl,rd,CR,dx,_,_,rfl,hp,c.cl,c.na _ (by simp),rfl,_,rfl,rd,CR,dx,_,_,rfl,hp,c.cl,c.na _ (by simp),rfl,(g:Int),rfl,_,rfl,rd,CR,dx,_,_,rfl,hp,c.cl,c.na _ (by simp),rfl,_,_,rfl,rfl,((g+1:Nat):Int),rfl,z,g,g+1,rfl,rfl,rfl,by omega,aIx zl,q'⟩
def aFe:aL ["self","signs","sign"] ["self","signs"] (aC aC5):=⟨rfl,rfl,rfl,by decide+kernel,rfl,by decide+kernel,by decide+kernel⟩
def aR7 (F:Fun K "pass_by" "TermReader.pass_by" aC5 f fd) (c:Cf K CR FR) (D_ahead:DR P w K mg base 1 CR "ahead" ["self"] (lL CR)):bB P w K mg base CX0 2 f fd ["self","signs"] (qZ CR):=by
 refine F.ok aFe (λvs H Q E h=>?_) (λcdv A outer s H vs Q E hr h=>?_)
 ·obtain⟨rd,z,w',g,r,rfl,_⟩:=h;rfl
 ·obtain⟨rd,z,w',g,r,rfl,R,zl,asc,hz,q⟩:=h;refine⟨_,(aR (aPg Bd rfl (aUg (pv 1)) (bL (i:=2) aFe.nd rfl (Bu rfl)) (aK (fD (cM aJj (bH (pv 0) D_ahead (hr.mono (by omega)) bG) (pv 2) (dC _)) (aR dY) bZ) (aR (dF (pv 0) (qN uM (mK (pv 0) rfl) dX) rfl))))),?_⟩;refine⟨_,rfl,w',rfl,asc,?_⟩;refine aRv (z:=w') (λi σ H2=>∃v2,σ=[some (.ref rd),some (.str (tx w')),v2]/\Kp rd H H2/\gJ CR H2 rd z (g+i)) ⟨_,rfl,Kp.of (fC.refl H),R⟩ ?_ ?_
  ·rintro i ch σ H2 hi ⟨v2,rfl,k2,dx,hp⟩;have hd:z.drop (g+i)=ch::(w'.drop (i+1)++r):=by
    obtain⟨hlt,e⟩:=List.getElem?_eq_some_iff.mp hi;rw [<-Js,hz,Hd (Eh hlt),Bh hlt,e];rfl
   refine⟨_,rfl,rd,CR,dx,_,rfl,hp,rfl,rfl,rd,z,g+i,rfl,⟨dx,hp⟩,zl,_,rfl,rfl,_,rfl,?_⟩;rw [take1 hd];refine aNr rfl ?_;refine⟨_,rfl,rd,CR,dx,_,_,rfl,hp,c.cl,c.na _ (by simp),rfl,_,_,rfl,rfl,_,rfl,rd,CR,dx,_,rfl,hp,c.cl,c.na _ (by simp),by show(2:Nat)<1000;decide,?_⟩;exact⟨_,rfl,k2.trans aSr,dx,aJ⟩
  ·rintro σ H2 ⟨v2,rfl,k2,R2⟩;exact q H2 k2 R2
def aRd:aL ["self"] ["self"] (aC aGq):=⟨rfl,rfl,rfl,by decide+kernel,rfl,by decide+kernel,by decide+kernel⟩
def aWp {t0:Tok} (F:Fun K "figure_is_ahead" "TermReader.figure_is_ahead" aGq f fd) (D_ahead:DR P w K mg base 1 CR "ahead" ["self"] (lL CR)) (g_FIGURES:mg "FIGURES"=some (.str "0123456789" t0)):bB P w K mg base CX0 2 f fd ["self"] (aSz CR):=by
 refine F.ok aRd (λvs H Q E h=>?_) (λcdv A outer s H vs Q E hr h=>?_)
 ·obtain⟨rd,z,g,rfl,_⟩:=h;rfl
 ·obtain⟨rd,z,g,rfl,R,zl,q⟩:=h;have R':=R;obtain⟨dx,hp⟩:=R';refine⟨_,(aR (cQ (aPb (aDe aJj (bH (pv 0) D_ahead (hr.mono (by omega)) bG) bY (dC _)) (aOh (aDe aLu (bH (pv 0) D_ahead (hr.mono (by omega)) bG) (aRz rfl g_FIGURES) rfl))))),?_⟩;refine⟨_,rfl,rd,CR,dx,_,rfl,hp,rfl,rfl,rd,z,g,rfl,R,zl,rfl,_,rfl,?_⟩;cases hd:z.drop g with
  |nil=>
   have e:rQ z g=false:=by
    unfold rQ;rw [show z[g]? =none from Co (List.drop_eq_nil_iff.mp hd)]
   rw [e]at q;exact qP q
  |cons ch r=>
   have e:rQ z g=dig ch:=by unfold rQ;rw [yR hd]
   rw [e]at q;refine lG (by rw [decide_eq_false λz=>by have:=jL ((V.str.inj z).trans (bN [] rfl));cases this];rfl) ?_;refine⟨_,rfl,rd,CR,dx,_,rfl,hp,rfl,rfl,rd,z,g,rfl,R,zl,_,_,rfl,rfl,?_⟩;rw [take1 hd];have f1:=StrLaws.found_one (Au "0123456789") ch;have f2:(!(Kx (Au "0123456789") (tx [ch]) 0 (Au "0123456789").length 1).isEmpty)=dig ch:=by
    refine f1.trans ?_;rw [Ej,decide_eq_true_iff];exact aL6 ch
   rw [f2];exact q
def aEk:aL ["self","begin"] ["self"] (aC aDg):=⟨rfl,rfl,rfl,by decide+kernel,rfl,by decide+kernel,by decide+kernel⟩
def aR9 (F:Fun K "read_figures" "TermReader.read_figures" aDg f fd) (c:Cf K CR FR) (D_ahead:DR P w K mg base 1 CR "ahead" ["self"] (lL CR)) (D_pass_by:DR P w K mg base 2 CR "pass_by" ["self","signs"] (qZ CR)) (D_figure_is_ahead:DR P w K mg base 2 CR "figure_is_ahead" ["self"] (aSz CR)) (T:Txt K mg):bB P w K mg base CX0 3 f fd ["self"] (aD0 CR):=by
 refine F.ok aEk (λvs H Q E h=>?_) (λcdv A outer s H vs Q E hr h=>?_)
 ·obtain⟨rd,z,g,m,r,rfl,_⟩:=h;rfl
 ·obtain⟨rd,z,g,m,r,rfl,R,zl,hz,nd,hm,q⟩:=h;obtain⟨dx,hp⟩:=R;obtain⟨_,g_MOST_FIGURES⟩:=T.mfi;refine⟨_,(aK (gW (i:=1) aEk.nd rfl (Bu rfl) (mK (pv 0) rfl)) (aK (fD (aC9 (aA5 (bH (pv 0) D_figure_is_ahead (hr.mono (by omega)) bG))) (aR dY) bZ) (aK (fD (cM oG (bH (pv 0) D_ahead (hr.mono (by omega)) bG) bY (dC _)) (aK (cV (cH (pv 0) D_pass_by (hr.mono (by omega)) bG (aN bY aZ))) (aR (cQ dX))) bZ) (aK (uV Bd (PW.pt (aHd (aA5 (bH (pv 0) D_figure_is_ahead (hr.mono (by omega)) bG)) (aDh (cM vW (qN iC (mK (pv 0) rfl) (pv 1)) (aDy rfl g_MOST_FIGURES) (dC _))))) (aR (dF (pv 0) (qN uM (mK (pv 0) rfl) dX) rfl))) (aR (cQ (lX aLq rfl T.int Sb (aN (aEt aOr (mK (pv 0) rfl) (yP (pv 1)) (yP (mK (pv 0) rfl))) aZ)))))))),?_⟩;have al:=aVw m;have ln:=aEd 12 m hm;obtain⟨ch,rs,ec⟩:∃c rs,dg m=c::rs:=by
   rcases Fe m with h0|h0
   ·exact⟨48,[],by rw [h0,yX]⟩
   ·obtain⟨c,r,e,_⟩:=vP m h0;exact⟨c,r,e⟩
  have hd:z.drop g=ch::(rs++r):=by rw [hz,ec];rfl
  have dch:rQ z g=true:=by unfold rQ;rw [yR hd];exact decide_eq_true (al ch (by rw [ec];exact Ae))
  refine⟨_,rfl,rd,CR,dx,_,_,rfl,hp,c.cl,c.na _ (by simp),rfl,?_⟩;refine⟨_,rfl,rd,CR,dx,_,rfl,hp,rfl,rfl,rd,z,g,rfl,⟨dx,hp⟩,zl,_,rfl,?_⟩;rw [dch];refine qP ?_;refine⟨_,rfl,rd,CR,dx,_,rfl,hp,rfl,rfl,rd,z,g,rfl,⟨dx,hp⟩,zl,rfl,_,rfl,?_⟩;rw [take1 hd];rcases Fe m with h0|h0
  ·subst h0;rw [yX]at ec hz q;cases ec;refine lG (decide_eq_true (congrArg V.str (bN [48] rfl).symm)) ?_;refine⟨_,rfl,rd,CR,dx,_,rfl,hp,rfl,rfl,rd,z,[48],g,r,aA7 rfl,⟨dx,hp⟩,zl,by decide,hz,λH1 k1 R1=>?_⟩;exact q H1 k1 R1
  ·obtain⟨c',r',e',h49,h57⟩:=vP m h0;rw [ec]at e';obtain⟨rfl,rfl⟩:=Bp e';refine fO (decide_eq_false λx=>by have:=jL ((V.str.inj x).trans (bN [48] rfl));injection this with h1;omega) ?_;refine⟨λk σ H1=>∃i,k=(dg m).length-i/\i<=(dg m).length/\σ=[some (.ref rd),some (aBd g)]/\Kp rd H H1/\gJ CR H1 rd z (g+i),⟨_,0,rfl,Bb _,rfl,Kp.of (fC.refl H),dx,hp⟩,?_⟩;rintro k σ H1 ⟨i,rfl,hi,rfl,k1,dx1,hp1⟩;refine⟨_,rfl,rd,CR,dx1,_,rfl,hp1,rfl,rfl,rd,z,g+i,rfl,⟨dx1,hp1⟩,zl,_,rfl,?_⟩;have dr:z.drop (g+i)=(dg m).drop i++r:=by rw [<-Js,hz,Hd hi]
   by_cases lt:i<(dg m).length
   ·have hc:z[g+i]? =some (dg m)[i]:=yR (r:=(dg m).drop (i+1)++r) (by rw [dr,Bh lt];rfl);have dd:rQ z (g+i)=true:=by unfold rQ;rw [hc];exact decide_eq_true (al _ (Eb lt))
    rw [dd];refine aGn ?_;refine⟨_,rfl,rd,CR,dx1,_,_,rfl,hp1,c.cl,c.na _ (by simp),rfl,_,rfl,_,_,rfl,rfl,_,_,rfl,rfl,_,rfl,?_⟩;refine lG (decide_eq_true (by show((g+i:Nat):Int)-(g:Int)<13;omega)) ?_;refine⟨λσ' H'=>∃m',m'<(dg m).length-i/\_,λ_ _ z=>z,?_⟩;refine⟨_,rfl,rd,CR,dx1,_,_,rfl,hp1,c.cl,c.na _ (by simp),rfl,_,_,rfl,rfl,_,rfl,rd,CR,dx1,_,rfl,hp1,c.cl,c.na _ (by simp),by show(2:Nat)<1000;decide,?_⟩;exact⟨(dg m).length-(i+1),by omega,i+1,rfl,lt,rfl,k1.trans aSr,dx1,aJ⟩
   ·have ei:i=(dg m).length:=by omega
    subst ei;have dd:rQ z (g+(dg m).length)=false:=by
     rw [Gp (Am _),Dy]at dr;unfold rQ;cases r with
     |nil=>rw [show z[g+(dg m).length]? =none from Co (List.drop_eq_nil_iff.mp dr)]
     |cons x y=>rw [yR dr];exact nd x y rfl
    rw [dd];refine qP ?_;have ct:(z.drop g).take (g+(dg m).length-g)=dg m:=by rw [show g+(dg m).length-g=(dg m).length by omega,hz,Rq]
    refine⟨_,rfl,rd,CR,dx1,_,_,rfl,hp1,c.cl,c.na _ (by simp),rfl,_,rfl,(g:Int),rfl,_,rfl,rd,CR,dx1,_,_,rfl,hp1,c.cl,c.na _ (by simp),rfl,((g+(dg m).length:Nat):Int),rfl,z,g,g+(dg m).length,rfl,rfl,rfl,by omega,aIx zl,?_⟩;rw [ct];refine⟨dg m,rfl,by rw [ec];simp,al,by omega,?_⟩;rw [aUe];exact q H1 k1 ⟨dx1,hp1⟩
def aQ2:aL ["self"] ["self"] (aC aHm):=⟨rfl,rfl,rfl,by decide+kernel,rfl,by decide+kernel,by decide+kernel⟩
def aUz (F:Fun K "read_number" "TermReader.read_number" aHm f fd) (D_ahead:DR P w K mg base 1 CR "ahead" ["self"] (lL CR)) (D_pass_by:DR P w K mg base 2 CR "pass_by" ["self","signs"] (qZ CR)) (D_read_figures:DR P w K mg base 3 CR "read_figures" ["self"] (aD0 CR)):bB P w K mg base CX0 4 f fd ["self"] (aD1 CR):=by
 refine F.ok aQ2 (λvs H Q E h=>?_) (λcdv A outer s H vs Q E hr h=>?_)
 ·obtain⟨rd,z,g,n,r,rfl,_⟩:=h;rfl
 ·obtain⟨rd,z,g,n,r,rfl,⟨dx,hp⟩,zl,hz,nd,hn,q⟩:=h;refine⟨_,(aK (fD (cM aJj (bH (pv 0) D_ahead (hr.mono (by omega)) bG) bY (dC _)) (aR (cQ (bH (pv 0) D_read_figures (hr.mono (by omega)) bG))) bZ) (aK (cV (cH (pv 0) D_pass_by (hr.mono (by omega)) bG (aN bY aZ))) (aK (fD (cM oG (bH (pv 0) D_ahead (hr.mono (by omega)) bG) bY (dC _)) (aR dY) bZ) (aR (cQ (aTc aPf (bH (pv 0) D_read_figures (hr.mono (by omega)) bG))))))),?_⟩;refine⟨_,rfl,rd,CR,dx,_,rfl,hp,rfl,rfl,rd,z,g,rfl,⟨dx,hp⟩,zl,rfl,_,rfl,?_⟩;cases n with
  |ofNat m=>
   rw [show Rv m=(m:Int)from rfl,yV]at hz q;obtain⟨ch,rs,ec,hc⟩:∃c rs,dg m=c::rs/\48<=c:=by
    rcases Fe m with h0|h0
    ·exact⟨48,[],by rw [h0,yX],by omega⟩
    ·obtain⟨c,r,e,h1,_⟩:=vP m h0;exact⟨c,r,e,by omega⟩
   rw [take1 (c:=ch) (r:=rs++r) (by rw [hz,ec];rfl)];refine lG (by rw [decide_eq_false λx=>by have:=jL ((V.str.inj x).trans (bN [45] rfl));injection this with h1;omega];rfl) ?_;exact⟨_,rfl,rd,CR,dx,_,rfl,hp,rfl,rfl,rd,z,g,m,r,rfl,⟨dx,hp⟩,zl,hz,nd,hn,λH1 k1 R1=>q H1 k1 R1⟩
  |negSucc m=>
   rw [aD2]at hz q;rw [take1 (c:=45) (r:=dg (m+1)++r) (by rw [hz];rfl)];refine aNr (congrArg V.str (bN [45] rfl).symm) ?_;refine⟨_,rfl,rd,CR,dx,_,rfl,hp,rfl,rfl,rd,z,[45],g,dg (m+1)++r,aA7 rfl,⟨dx,hp⟩,zl,by decide,hz,λH1 k1 R1=>?_⟩;obtain⟨dx1,hp1⟩:=R1;have h2:z.drop (g+1)=dg (m+1)++r:=cR (w:=[45]) hz;obtain⟨c',r',e',h49,h57⟩:=vP (m+1) (by omega);refine⟨_,rfl,rd,CR,dx1,_,rfl,hp1,rfl,rfl,rd,z,g+1,rfl,⟨dx1,hp1⟩,zl,rfl,_,rfl,?_⟩;rw [take1 (c:=c') (r:=r'++r) (by rw [h2,e'];rfl)];refine fO (decide_eq_false λx=>by have:=jL ((V.str.inj x).trans (bN [48] rfl));injection this with h1;omega) ?_;refine⟨_,rfl,rd,CR,dx1,_,rfl,hp1,rfl,rfl,rd,z,g+1,m+1,r,rfl,⟨dx1,hp1⟩,zl,h2,nd,by simpa using hn,λH2 k2 R2=>?_⟩;refine⟨_,rfl,?_⟩;refine q H2 (k1.trans k2) ?_;rw [Ah,show g+((dg (m+1)).length+1)=g+1+(dg (m+1)).length by omega];exact R2
end
def tl:List Int->List Nat
 | []=>[]
 |s::r=>32::(itx s++tl r)
theorem aPd:∀(b:Int) (ss:List Int),glu [32] (itx b::ss.map itx)=itx b++tl ss
 |b,[]=>by simp [glu,tl]
 |b,s::r=>by rw [Aw,glu,aPd s r];rfl
def zJ (b:Int) (ss:List Int):txt (.take b ss)=91::(itx b++(tl ss++[93])):=by rw [txt,aPd,Bi]
def mH {c:Nat} (h:dig c=false):NoD (c::r):=λx s e=>by cases e;exact h
def aGv {ss:List Int}:NoD (tl ss++93::r):=by
 cases ss with
 |nil=>exact mH rfl
 |cons s r=>exact mH rfl
def Kp.freeR {CR:Addr} {a q:Addr} (k:Kp a H H') (R:gJ CR H' a z g) (hq:H' q=none):H q=none:=by
 obtain⟨dx,e⟩:=R;cases h:H q with
 |none=>rfl
 |some o=>
  have:q≠a:=λz=>by rw [z,e]at hq;cases hq
  rw [k q o h this]at hq;cases hq
def aTs {CR:Addr} {H:Hp} {rd q:Addr} (R:gJ CR H rd z g) (h:H q=some o) (no:∀dx fs,o≠ .ins CR dx fs):q≠rd:=λe=>by
 obtain⟨dx,e2⟩:=R;rw [e,e2]at h;cases h;exact no _ _ rfl
def gJ.new {CR:Addr} {H:Hp} {rd q:Addr} (R:gJ CR H rd z g) (h:q≠rd):gJ CR (upd H q o) rd z g:=let⟨dx,e⟩:=R;⟨dx,by rw [aM (Cy h)];exact e⟩
inductive aE2 (N:Cn) (CR:Addr) (vs:List V) (H:Hp) (Q:VK) (z3_:XK):Prop
 |mk (rd:Addr) (z:List Nat) (g:Nat) (b:Int) (ss:List Int) (r:List Nat) (q0_:vs=[.ref rd]) (q1_:gJ CR H rd z g) (q2_:z.length<=9000) (q3_:z.drop g=txt (.take b ss)++r) (q4_:vV (b,ss)) (q5_:1<=ss.length) (q6_:ss.length<=3) (q7_:∀(v':V) (H':Hp),Kp rd H H'->gJ CR H' rd z (g+(txt (.take b ss)).length)->lK N H' (.take b ss) v'->Q v' H'):aE2 N CR vs H Q z3_
def aC2 (N:Cn) (CR:Addr):Sp:=λvs H Q z3_=>aE2 N CR vs H Q z3_
section
variable {P:Program} {w:World} {K:Ac} {mg:Str->Option Value} {base:Heap} {CR:Addr} {N:Cn}
def zN:aL ["self","back","steps"] ["self"] (aC aDj):=⟨rfl,rfl,rfl,by decide+kernel,rfl,by decide+kernel,by decide+kernel⟩
def aO2 (F:Fun K "read_take" "TermReader.read_take" aDj f fd) (D_ahead:DR P w K mg base 1 CR "ahead" ["self"] (lL CR)) (D_pass_by:DR P w K mg base 2 CR "pass_by" ["self","signs"] (qZ CR)) (D_read_number:DR P w K mg base 4 CR "read_number" ["self"] (aD1 CR)) (R_take:Mkr P w K mg base N.take "Take" ["self","back","steps"] (aCy K "back" "steps")) (c2:Cf K N.take ["back","steps"]) (T:Txt K mg):bB P w K mg base CX0 5 f fd ["self"] (aC2 N CR):=by
 refine F.ok zN (λvs H Q E h=>?_) (λcdv A outer s H vs Q E hr h=>?_)
 ·obtain⟨rd,z,g,b,ss,r,rfl,_⟩:=h;rfl
 ·obtain⟨rd,z,g,b,ss,r,rfl,R,zl,hz,⟨b1,b3,bd⟩,l1,l3,q⟩:=h;obtain⟨_,g_MOST_STEPS_term_texts⟩:=T.mst2;simp only at b1 b3 bd;refine⟨_,(aK (cV (cH (pv 0) D_pass_by (hr.mono (by omega)) bG (aN bY aZ))) (aK (gW (i:=1) zN.nd rfl (Bu rfl) (bH (pv 0) D_read_number (hr.mono (by omega)) bG)) (aK (cV (cH (pv 0) D_pass_by (hr.mono (by omega)) bG (aN bY aZ))) (aK (gW (i:=2) zN.nd rfl (Bu rfl) (aHj (aN (bH (pv 0) D_read_number (hr.mono (by omega)) bG) aZ))) (aK (uV Bd (PW.pt (aHd (cM oG (bH (pv 0) D_ahead (hr.mono (by omega)) bG) bY (dC _)) (aDh (cM vW (gR aX (by rfl) T.len Md (aN (pv 2) aZ)) (aDy rfl g_MOST_STEPS_term_texts) (dC _))))) (aK (cV (cH (pv 0) D_pass_by (hr.mono (by omega)) bG (aN bY aZ))) (aR (cV (xT Ec Fx Fu lW (pv 2) (aN (bH (pv 0) D_read_number (hr.mono (by omega)) bG) aZ)))))) (aK (cV (cH (pv 0) D_pass_by (hr.mono (by omega)) bG (aN bY aZ))) (aR (cQ (tK R_take (hr.mono (by omega)) rfl bG (aN (pv 1) (aN (lX tL rfl T.tuple Mb (aN (pv 2) aZ)) aZ))))))))))),?_⟩;obtain⟨s0,sr,rfl⟩:∃s0 sr,ss=s0::sr:=by
   cases ss with
   |nil=>simp at l1
   |cons a b=>exact⟨a,b,rfl⟩
  rw [zJ]at hz q;have R':=R;obtain⟨dx,hp⟩:=R';have z0:z.drop g=[91]++(itx b++(tl (s0::sr)++(93::r))):=by rw [hz];simp
  refine⟨_,rfl,rd,CR,dx,_,rfl,hp,rfl,rfl,rd,z,[91],g,_,aA7 rfl,R,zl,by decide,z0,λH1 k1 R1=>?_⟩;have z1:=cR z0;obtain⟨dx1,hp1⟩:=id R1;refine⟨_,rfl,rd,CR,dx1,_,rfl,hp1,rfl,rfl,rd,z,_,b,_,rfl,R1,zl,z1,aGv,by omega,λH2 k2 R2=>?_⟩;have z2:=cR z1;obtain⟨dx2,hp2⟩:=id R2;refine⟨_,rfl,rd,CR,dx2,_,rfl,hp2,rfl,rfl,rd,z,[32],_,itx s0++(tl sr++93::r),aA7 rfl,R2,zl,by decide,by rw [z2];simp [tl],λH3 k3 R3=>?_⟩;have z3:z.drop (g+ [91].length+(itx b).length+ [32].length)=itx s0++(tl sr++93::r):=cR (w:=[32]) (by rw [z2];simp [tl]);obtain⟨dx3,hp3⟩:=id R3;have hs0:=uB (bd s0 Ae);refine⟨_,rfl,rd,CR,dx3,_,rfl,hp3,rfl,rfl,rd,z,_,s0,_,rfl,R3,zl,z3,aGv,hs0,λH4 k4 R4=>?_⟩;have z4:=cR z3;have k04:=((k1.trans k2).trans k3).trans k4;refine⟨by show 1<=sizeLine;decide,λD nD=>?_⟩;have Dr:D≠rd:=λe=>by obtain⟨_,e4⟩:=id R4;rw [e,e4]at nD;cases nD
  have nH:=k04.freeR R4 nD;refine⟨λk σ H5=>∃(i p:Nat),k=sr.length-i/\i<=sr.length/\σ=[some (.ref rd),some (.int b),some (.ref D)]/\Kp rd H H5/\gJ CR H5 rd z p/\H5 D=some (.lst ((s0::sr.take i).map V.int))/\z.drop p=tl (sr.drop i)++93::r/\p+(tl (sr.drop i)).length=g+1+(itx b).length+(tl (s0::sr)).length,⟨_,0,_,rfl,Bb _,rfl,k04.upd nH,R4.new Dr,aJ,z4,?_⟩,?_⟩
  ·simp only [Gv,tl,Ah,Ag,Be];omega
  rintro k σ H5 ⟨i,p,rfl,hi,rfl,k5,R5,hD,z5,hl⟩;obtain⟨dx5,hp5⟩:=id R5;refine⟨_,rfl,rd,CR,dx5,_,rfl,hp5,rfl,rfl,rd,z,p,rfl,R5,zl,rfl,_,rfl,?_⟩;by_cases lt:i<sr.length
  ·have ed:sr.drop i=sr[i]::sr.drop (i+1):=Bh lt;rw [ed,tl]at z5 hl;rw [take1 (c:=32) z5];refine lG (decide_eq_true (congrArg V.str (bN [32] rfl).symm)) ?_;have hs:=uB (bd sr[i] (Ad _ (Eb lt)));rw [Ah]at l3;refine⟨_,rfl,D,_,rfl,.inl (SqL.of hD),_,_,rfl,rfl,_,rfl,?_⟩;refine lG (decide_eq_true (by rw [Ab,Ah,Cd];show((min i sr.length+1:Nat):Int)<3;omega)) ?_;refine⟨λσ' H'=>∃m',m'<sr.length-i/\_,λ_ _ z=>z,?_⟩;have z5':z.drop p=[32]++(itx sr[i]++(tl (sr.drop (i+1))++93::r)):=by rw [z5];simp
   refine⟨_,rfl,rd,CR,dx5,_,rfl,hp5,rfl,rfl,rd,z,[32],p,_,aA7 rfl,R5,zl,by decide,z5',λH6 k6 R6=>?_⟩;have z6:=cR z5';obtain⟨dx6,hp6⟩:=id R6;have hD6:H6 D=some (.lst ((s0::sr.take i).map V.int)):=k6 _ _ hD Dr;refine⟨_,rfl,.inl ⟨rfl,_,SqL.of hD6⟩,_,rfl,rd,CR,dx6,_,rfl,hp6,rfl,rfl,rd,z,_,sr[i],_,rfl,R6,zl,z6,aGv,hs,λH7 k7 R7=>?_⟩;have z7:=cR z6;have hD7:H7 D=some (.lst ((s0::sr.take i).map V.int)):=k7 _ _ (k6 _ _ hD Dr) Dr;refine⟨D,_,_,rfl,rfl,hD7,small (by rw [Ab,Ah,Cd];omega),?_⟩;refine⟨sr.length-(i+1),by omega,i+1,_,rfl,lt,rfl,((k5.trans k6).trans k7).upd nH,R7.new Dr,?_,z7,?_⟩
   ·rw [aJ];show some (HO.lst ((s0::sr.take i).map V.int++[V.int sr[i]]))=_;rw [Hw,Ak lt, <-List.cons_append,Ay];rfl
   ·simp only [Ah,Ag,Be]at hl⊢;omega
  ·have ei:i=sr.length:=by omega
   subst ei;rw [Gp (Am _)]at z5 hl;rw [take1 (c:=93) z5];refine fO (decide_eq_false λx=>by have:=jL ((V.str.inj x).trans (bN [32] rfl));injection this with h1;omega) ?_;have z5':z.drop p=[93]++r:=z5;refine⟨_,rfl,rd,CR,dx5,_,rfl,hp5,rfl,rfl,rd,z,[93],p,_,aA7 rfl,R5,zl,by decide,z5',λH6 k6 R6=>?_⟩;have hD6:H6 D=some (.lst ((s0::sr).map V.int)):=by have:=k6 _ _ hD Dr;rw [Ip]at this;exact this
   refine⟨_,rfl,_,rfl,D,_,rfl,.inl ⟨SqL.of hD6,λu nu=>?_⟩⟩;generalize e:upd H6 u _=H7;obtain⟨s7,e7⟩:=aU4 nu e;refineλx dx nx nd ne=>⟨x,N.take,dx,.int b,.ref u,rfl,aJ,c2,rfl,?_⟩;have sN:fC H7 (upd (upd (upd (upd H7 dx (.own x)) x (.ins N.take dx [])) x (.ins N.take dx [("back",.int b)])) x (.ins N.take dx [("back",.int b),("steps",.ref u)])):=jT nx (aGr nx nd);refine q _ _ (((k5.trans k6).same s7).same sN) ?_ ⟨x,dx,_,rfl,aJ,u,rfl,sN _ _ e7⟩;have:p+ [93].length=g+(91::(itx b++(tl (s0::sr)++[93]))).length:=by
    simp only [Ah,Ag,Be,tl]at hl⊢;omega
   rw [<-this];exact(R6.same s7).same sN
def aUc {K:Ac} {o e:Expr} {to:TE} {t:TA} {name:Str} {apos cpos:Pos} {T id:String} {r:V->List V->Hp->VK->Prop} (h:X.K=K) (pa:PlainAttrs T) (slot:Slot T name id) (hty:typeOf (.builtin id)=pure (.type "method_descriptor")) (hm:MtR X id r) (ho:PE X o to) (ha:PA X (e::es) t)
  (hbase:attributeBase o name X.env (eval o X.env)=eval o X.env:=by rfl)
  (hfew:((backTo cpos (starEach (e::es) X.env)).all (λx=> !x.1) && (backToKw cpos (keywordEach [] X.env)).all (λx=>x.1.isSome)
   && decide ((e::es).length+([]:List Keyword).length+(if([]:List Keyword).isEmpty then 0 else 1)<30))=true:=by rfl)
  (hline:(apos.endLine==cpos.line)=true:=by rfl) (hs:starEach (e::es) X.env=(false,eval e X.env)::starEach es X.env:=by rfl) (hplain:(backTo cpos (starEach es X.env)).any (·.1)=false:=by rfl):PE X (.Call (.Attribute o name apos) (e::es) [] cpos) (tBM K T r to t):=by
 subst h;exact xT pa slot hty hm ho ha hbase hfew hline hs hplain
def wl:List (List Nat):=[[43],[45],[42],[109,105,110],[109,97,120],[114,101,115,116],[63]]
def Words (K:Ac) (aW:Addr):Prop:=∀H:Hp,SqT K H aW (wl.map λl=>V.str (tx l))
inductive aIy (CR:Addr) (vs:List V) (H:Hp) (Q:VK) (z3_:XK):Prop
 |mk (rd:Addr) (z:List Nat) (g:Nat) (x r:List Nat) (q0_:vs=[.ref rd]) (q1_:gJ CR H rd z g) (q2_:z.length<=9000) (q3_:x∈wl) (q4_:z.drop g=x++r) (q5_:∀H',Kp rd H H'->gJ CR H' rd z (g+x.length)->Q (.str (tx x)) H'):aIy CR vs H Q z3_
def aG1 (CR:Addr):Sp:=λvs H Q z3_=>aIy CR vs H Q z3_
def aU9 (x:List Nat) (ls:List (List Nat)):inV (.str (tx x)) (ls.map λl=>V.str (tx l))=decide (x∈ls):=by
 rw [Ej,decide_eq_true_iff];unfold inV;rw [Lc];constructor
 ·rintro⟨y,hy,e⟩;obtain⟨l,hl,rfl⟩:=List.mem_map.mp hy;have:tx l=tx x:=by simpa [eqV]using e
  rw [<-jL this];exact hl
 ·intro h;exact⟨_,List.mem_map.mpr ⟨x,h,rfl⟩,by simp [eqV]⟩
def aVe:∀x∈wl,∀k:Nat,k<x.length->x.take k∉wl:=by decide
def aUt:∀x∈wl,∀c∈x,c<128:=by decide
def aU6:∀x∈wl,x.length<=4:=by decide
abbrev aQp:List Str:=["self","begun","longer"]
def vU:aL ["self","begun","longer"] ["self"] (aC yU):=⟨rfl,rfl,rfl,by decide+kernel,rfl,by decide+kernel,by decide+kernel⟩
def aQz {f aW:Addr} (F:Fun K "read_word" "TermReader.read_word" yU f fd) (D_ahead:DR P w K mg base 1 CR "ahead" ["self"] (lL CR)) (D_pass_by:DR P w K mg base 2 CR "pass_by" ["self","signs"] (qZ CR)) (g_WORDS:mg "WORDS"=some (.ref aW)) (W_:Words K aW) (T:Txt K mg):bB P w K mg base CX0 3 f fd ["self"] (aG1 CR):=by
 refine F.ok vU (λvs H Q E h=>?_) (λcdv A outer s H vs Q E hr h=>?_)
 ·obtain⟨rd,z,g,x,r,rfl,_⟩:=h;rfl
 ·obtain⟨rd,z,g,x,r,rfl,R,zl,hx,hz,q⟩:=h;refine⟨_,(aK (gW (i:=1) vU.nd rfl (Bu rfl) bY) (aK (uV Bd (cM aC3 (pv 1) (aJ1 rfl g_WORDS) rfl) (aK (gW (i:=2) vU.nd rfl (Bz rfl) (qN aRu (pv 1) (bH (pv 0) D_ahead (hr.mono (by omega)) bG))) (aK (fD (PW.pt (aS5 (cM oG (pv 2) (pv 1) (dC _)) (aO0 (aC9 (aA5 (gR aN2 rfl T.any boot_any (aN (aSj (own:=["word"]) (cap:=[("longer",2)]) (g:=vQ 0) (aC yU) aQp rfl rfl (λx h=>bO h) (by decide+kernel) rfl (aNc (aJ1 rfl g_WORDS)) (λcl C s2 H2 fp=>(bL (i:=0) (show(["word","longer"]:List Str).Nodup by decide+kernel) rfl (Bu rfl) (Bz rfl))) (λcl C s2 H2 fp=>(aUc (K:=K) rfl Mn PySem.F.slot_str_startswith PySem.F.type_str_startswith aK9 (pv 0) (aN (pv 1) aZ)))) aZ))))))) (aR dY) bZ) (aK (cV (cH (pv 0) D_pass_by (hr.mono (by omega)) bG (aN (bH (pv 0) D_ahead (hr.mono (by omega)) bG) aZ))) (aR (gW (i:=1) vU.nd rfl (Bu rfl) (pv 2))))))) (aR (cQ (pv 1))))),?_⟩;have xl:=aU6 x hx;refine⟨λk σ H1=>∃i v2,k=x.length-i/\i<=x.length/\σ=[some (.ref rd),some (.str (tx (x.take i))),v2]/\Kp rd H H1/\gJ CR H1 rd z (g+i),⟨_,0,_,rfl,Bb _,by rw [show Au ""=tx []from bN [] rfl];rfl,Kp.of (fC.refl H),R⟩,?_⟩;rintro k σ H1 ⟨i,v2,rfl,hi,rfl,k1,R1⟩;obtain⟨dx1,hp1⟩:=id R1;refine⟨_,rfl,aW,_,rfl,.inr (W_ H1),rfl,rfl,_,rfl,?_⟩;rw [aU9];rcases Ge i x.length with lt|ge
  ·refine lG (by rw [decide_eq_false (aVe x hx i lt)];rfl) ?_;refine⟨λσ' H'=>∃m',m'<x.length-i/\_,λ_ _ z=>z,?_⟩;have hd:z.drop (g+i)=[x[i]]++(x.drop (i+1)++r):=by rw [<-Js,hz,Hd hi,Bh lt];rfl
   have hc:=aUt x hx _ (Eb lt);have e1:x.take i++[x[i]]=x.take (i+1):=by rw [Hw,Ak lt];rfl
   refine⟨_,rfl,_,rfl,rd,CR,dx1,_,rfl,hp1,rfl,rfl,rd,z,g+i,rfl,R1,zl,?_⟩;rw [take1 hd];refine aU2 rfl rfl (by rw [Cd];show _+1<=9000;omega) ?_;rw [e1];refine⟨_,rfl,_,rfl,rfl,_,rfl,?_⟩;refine fO (decide_eq_false λe=>?_) ?_
   ·have:=congrArg Cg (jL (V.str.inj e));rw [Cd,Cd]at this;omega
   have xt:(x.take (i+1)).length=i+1:=by rw [Cd];omega
   generalize ey:x.take (i+1)=y;rw [ey]at xt;refine⟨aW,rfl,⟨_,W_ H1⟩,λD hD=>?_⟩;refine aNy (K:=K) (a:=aW) (xs:=wl.map λl=>V.str (tx l)) (λj acc σ H3=>(∃v0,σ=[v0,some (.str (tx y))])/\fC H1 H3/\H3 D=some (.lst acc)/\acc=((wl.take j).map λl=>decide (l.take y.length=y)).map V.bl) ⟨⟨_,rfl⟩,sameNew hD,aJ,rfl⟩ (λj acc σ H3 _ _=>W_ H3) ?_ ?_
   ·rintro j v acc σ H3 hj hv ⟨⟨v0,rfl⟩,s3,hD3,rfl⟩;obtain⟨l,rfl,hl⟩:=aDt hv;refine⟨_,rfl,rfl,_,rfl,l,y,rfl,rfl,?_⟩;refine aY4 hD3 (small (by rw [Ab,Ab,Cd];have:wl.length=7:=rfl;omega)) hj ⟨⟨_,rfl⟩,jT hD s3,aJ,?_⟩;rw [Hw,hl,Ay,Ay];rfl
   ·rintro acc σ H3 ⟨_,s3,hD3,rfl⟩;rw [Ab,Ip]at hD3;refine⟨D,_,rfl,SqL.of hD3,rfl,?_⟩;have an:(wl.map λl=>decide (l.take y.length=y)).any id=true:=by
     rw [Lc];exact⟨_,List.mem_map.mpr ⟨x,hx,rfl⟩,by rw [xt,ey];simp⟩
    rw [an];refine⟨_,rfl,?_⟩;refine qP ?_;have R3:=R1.same s3;obtain⟨dx3,hp3⟩:=id R3;refine⟨_,rfl,rd,CR,dx3,_,rfl,hp3,rfl,rfl,_,rfl,rd,CR,dx3,_,rfl,hp3,rfl,rfl,rd,z,g+i,rfl,R3,zl,?_⟩;rw [take1 hd];refine⟨rd,z,[x[i]],g+i,_,rfl,R3,zl,λc hc'=>by rw [List.mem_singleton.mp hc'];exact hc,hd,λH4 k4 R4=>?_⟩;refine⟨_,rfl,x.length-(i+1),by omega,i+1,some (.str (tx y)),rfl,lt,?_,(k1.same s3).trans k4,R4⟩;rw [ey];rfl
  ·have ei:i=x.length:=by omega
   subst ei;rw [Ip];refine fO (by rw [decide_eq_true hx];rfl) ?_;exact⟨_,rfl,q H1 k1 R1⟩
end
def spl:Tm->Option (Tm×List Nat×List Nat)
 | .rest t y=>some (t,[114,101,115,116],itx y)
 | .cho a b c=>some (a,[63],txt b++([32,58,32]++txt c))
 | .bin k a b=>some (a,sgn (opn k),txt b)
 |_=>none
def aJr:∀{t a:Tm} {x y:List Nat},spl t=some (a,x,y)->txt t=40::(txt a++(32::(x++(32::(y++[41])))))
 | .rest t y,_,_,_,h=>by cases h;simp [txt]
 | .cho a b c,_,_,_,h=>by cases h;simp [txt]
 | .bin k a b,_,_,_,h=>by cases h;simp [txt]
def aP3 (k:Fin 5):sgn (opn k)∈wl/\sgn (opn k)≠[114,101,115,116]/\sgn (opn k)≠[63]:=by
 match k with
 |0=>decide
 |1=>decide
 |2=>decide
 |3=>decide
 |4=>decide
def aVt:∀{t a:Tm} {x y:List Nat},spl t=some (a,x,y)->x∈wl/\a∈kids t
 | .rest t y,_,_,_,h=>by cases h;exact⟨by decide,by simp [kids]⟩
 | .cho a b c,_,_,_,h=>by cases h;exact⟨by decide,by simp [kids]⟩
 | .bin k a b,_,_,_,h=>by cases h;exact⟨(aP3 k).1,by simp [kids]⟩
def aFn (N:Cn) (CR:Addr):Prop:=∀t:Tm,cls N t≠CR
def uG {N:Cn} {CR:Addr} {rd p dx:Addr} {t:Tm} (n:aFn N CR) (R:gJ CR H rd z g) (k:Kp rd H H') (h:H p=some (.ins (cls N t) dx fs)):H' p=some (.ins (cls N t) dx fs):=k _ _ h (aTs R h λ_ _ e=>by injection e with e1;exact n t e1)
def kI.kp {N:Cn} {CR:Addr} (n:aFn N CR) (R:gJ CR H rd z g) (s:Kp rd H H'):∀{t:Tm} {fs:List (Str×V)},kI N H fs t->kI N H' fs t
 | .num _,_,h=>h
 | .take _ _,_,⟨q,e,h⟩=>⟨q,e,s _ _ h (aTs R h λ_ _ e=>by cases e)⟩
 | .rest _ _,_,⟨p,dx,gs,e,h,h2⟩=>⟨p,dx,gs,e,uG n R s h,h2.kp n R s⟩
 | .cho _ _ _,_,⟨p,dp,ps,q,dq,qs,r,dr,rs,e,⟨h1,g1⟩,⟨h2,g2⟩,h3,g3⟩=>⟨p,dp,ps,q,dq,qs,r,dr,rs,e,⟨uG n R s h1,g1.kp n R s⟩,⟨uG n R s h2,g2.kp n R s⟩,uG n R s h3,g3.kp n R s⟩
 | .bin _ _ _,_,⟨p,dp,ps,q,dq,qs,e,⟨h1,g1⟩,h2,g2⟩=>⟨p,dp,ps,q,dq,qs,e,⟨uG n R s h1,g1.kp n R s⟩,uG n R s h2,g2.kp n R s⟩
def lK.kp {N:Cn} {CR:Addr} (n:aFn N CR) (R:gJ CR H rd z g) (s:Kp rd H H') {t:Tm} {v:V} (h:lK N H t v):lK N H' t v:=let⟨p,dx,fs,e,h1,h2⟩:=h;⟨p,dx,fs,e,uG n R s h1,h2.kp n R s⟩
inductive aBr (N:Cn) (vs:List V) (H:Hp) (Q:VK) (z3_:XK):Prop
 |mk (k:Fin 5) (a b:Tm) (va vb:V) (q0_:vs=[.str (opn k),va,vb]) (q1_:lK N H a va) (q2_:lK N H b vb) (q3_:∀(v':V) (H':Hp),fC H H'->lK N H' (.bin k a b) v'->Q v' H'):aBr N vs H Q z3_
def zR (N:Cn):Sp:=λvs H Q z3_=>aBr N vs H Q z3_
inductive aB1 (N:Cn) (CR:Addr) (d:Nat) (vs:List V) (H:Hp) (Q:VK) (z3_:XK):Prop
 |mk (rd:Addr) (z:List Nat) (g:Nat) (t a:Tm) (x y r:List Nat) (va:V) (wi:Nat) (q0_:vs=[.ref rd,va,.str (tx x),aBd wi]) (q1_:gJ CR H rd z g) (q2_:z.length<=9000) (q3_:spl t=some (a,x,y)) (q4_:z.drop g=y++(41::r)) (q5_:lK N H a va) (q6_:ht t<=d+1) (q7_:wi+d<=12) (q8_:lU t) (q9_:∀(v':V) (H':Hp),Kp rd H H'->gJ CR H' rd z (g+y.length)->lK N H' t v'->Q v' H'):aB1 N CR d vs H Q z3_
def aF5 (N:Cn) (CR:Addr) (d:Nat):Sp:=λvs H Q z3_=>aB1 N CR d vs H Q z3_
inductive aIo (N:Cn) (CR:Addr) (d:Nat) (vs:List V) (H:Hp) (Q:VK) (z3_:XK):Prop
 |mk (rd:Addr) (z:List Nat) (g:Nat) (t:Tm) (r:List Nat) (wi:Nat) (q0_:vs=[.ref rd,aBd wi]) (q1_:gJ CR H rd z g) (q2_:z.length<=9000) (q3_:z.drop g=txt t++r) (q4_:NoD r) (q5_:ht t<=d) (q6_:wi+d<=12) (q7_:lU t) (q8_:∀(v':V) (H':Hp),Kp rd H H'->gJ CR H' rd z (g+(txt t).length)->lK N H' t v'->Q v' H'):aIo N CR d vs H Q z3_
def aAg (N:Cn) (CR:Addr) (d:Nat):Sp:=λvs H Q z3_=>aIo N CR d vs H Q z3_
inductive aAt (N:Cn) (CR:Addr) (d:Nat) (vs:List V) (H:Hp) (Q:VK) (z3_:XK):Prop
 |mk (rd:Addr) (z:List Nat) (g:Nat) (t a:Tm) (x y r:List Nat) (wi:Nat) (q0_:vs=[.ref rd,aBd wi]) (q1_:gJ CR H rd z g) (q2_:z.length<=9000) (q3_:spl t=some (a,x,y)) (q4_:z.drop g=txt t++r) (q5_:ht t<=d+1) (q6_:wi+d+1<=12) (q7_:lU t) (q8_:∀(v':V) (H':Hp),Kp rd H H'->gJ CR H' rd z (g+(txt t).length)->lK N H' t v'->Q v' H'):aAt N CR d vs H Q z3_
def aBu (N:Cn) (CR:Addr) (d:Nat):Sp:=λvs H Q z3_=>aAt N CR d vs H Q z3_
structure aEs (P:Program) (w:World) (K:Ac) (mg:Str->Option Value) (base:Heap) (N:Cn):Prop where
 num:Mkr P w K mg base N.num "Number" ["self","value"] (aX1 K "value")
 take:Mkr P w K mg base N.take "Take" ["self","back","steps"] (aCy K "back" "steps")
 rest:Mkr P w K mg base N.rest "Rest" ["self","one","by"] (aCy K "one" "by")
 cho:Mkr P w K mg base N.cho "Chosen" ["self","test","one","other"] (aYm K "test" "one" "other")
 bin:∀k,Mkr P w K mg base (N.bin k) (bnm k) ["self","one","other"] (aCy K "one" "other")
 c1:Cf K N.num ["value"]
 c2:Cf K N.take ["back","steps"]
 c3:Cf K N.rest ["one","by"]
 c4:Cf K N.cho ["test","one","other"]
 c5:∀k,Cf K (N.bin k) ["one","other"]
section
variable {P:Program} {w:World} {K:Ac} {mg:Str->Option Value} {base:Heap} {CR:Addr} {N:Cn}
def aUq:aL ["word","one","other"] ["word","one","other"] (aC aOk):=⟨rfl,rfl,rfl,by decide+kernel,rfl,by decide+kernel,by decide+kernel⟩
def aKd (F:Fun K "pair_by" "pair_by" aOk f fd) (M:aEs P w K mg base N):bB P w K mg base CX0 3 f fd ["word","one","other"] (zR N):=by
 refine F.ok aUq (λvs H Q E h=>?_) (λcdv A outer s H vs Q E hr h=>?_)
 ·obtain⟨k,a,b,va,vb,rfl,_⟩:=h;rfl
 ·obtain⟨k,a,b,va,vb,rfl,ta,tb,q⟩:=h;have R_bin:=M.bin;refine⟨_,(aK (fD (cM oG (pv 0) bY (dC _)) (aR (cQ (tK (R_bin 0) (hr.mono (by omega)) rfl bG (aN (pv 1) (aN (pv 2) aZ))))) bZ) (aK (fD (cM oG (pv 0) bY (dC _)) (aR (cQ (tK (R_bin 1) (hr.mono (by omega)) rfl bG (aN (pv 1) (aN (pv 2) aZ))))) bZ) (aK (fD (cM oG (pv 0) bY (dC _)) (aR (cQ (tK (R_bin 2) (hr.mono (by omega)) rfl bG (aN (pv 1) (aN (pv 2) aZ))))) bZ) (aK (fD (cM oG (pv 0) bY (dC _)) (aR (cQ (tK (R_bin 3) (hr.mono (by omega)) rfl bG (aN (pv 1) (aN (pv 2) aZ))))) bZ) (aR (cQ (tK (R_bin 4) (hr.mono (by omega)) rfl bG (aN (pv 1) (aN (pv 2) aZ))))))))),?_⟩;match k,q with
  |0,q=>
   refine⟨_,rfl,rfl,_,rfl,lG (decide_eq_true rfl) ?_⟩;exact⟨_,rfl,_,rfl,rM (M.c5 0) ta tb (fC.refl H) q⟩
  |1,q=>
   refine⟨_,rfl,rfl,_,rfl,fO sF ?_⟩;refine⟨_,rfl,rfl,_,rfl,lG (decide_eq_true rfl) ?_⟩;exact⟨_,rfl,_,rfl,rM (M.c5 1) ta tb (fC.refl H) q⟩
  |2,q=>
   refine⟨_,rfl,rfl,_,rfl,fO sF ?_⟩;refine⟨_,rfl,rfl,_,rfl,fO sF ?_⟩;refine⟨_,rfl,rfl,_,rfl,lG (decide_eq_true rfl) ?_⟩;exact⟨_,rfl,_,rfl,rM (M.c5 2) ta tb (fC.refl H) q⟩
  |3,q=>
   refine⟨_,rfl,rfl,_,rfl,fO sF ?_⟩;refine⟨_,rfl,rfl,_,rfl,fO sF ?_⟩;refine⟨_,rfl,rfl,_,rfl,fO sF ?_⟩;refine⟨_,rfl,rfl,_,rfl,lG (decide_eq_true rfl) ?_⟩;exact⟨_,rfl,_,rfl,rM (M.c5 3) ta tb (fC.refl H) q⟩
  |4,q=>
   refine⟨_,rfl,rfl,_,rfl,fO sF ?_⟩;refine⟨_,rfl,rfl,_,rfl,fO sF ?_⟩;refine⟨_,rfl,rfl,_,rfl,fO sF ?_⟩;refine⟨_,rfl,rfl,_,rfl,fO sF ?_⟩;exact⟨_,rfl,_,rfl,rM (M.c5 4) ta tb (fC.refl H) q⟩
def zT:aL ["self","one","word","within","other"] ["self","one","word","within"] (aC sV):=⟨rfl,rfl,rfl,by decide+kernel,rfl,by decide+kernel,by decide+kernel⟩
def aKw (F:Fun K "read_behind" "TermReader.read_behind" sV f fd) (n:aFn N CR) (M:aEs P w K mg base N) (D_pass_by:DR P w K mg base 2 CR "pass_by" ["self","signs"] (qZ CR)) (D_read_figures:DR P w K mg base 3 CR "read_figures" ["self"] (aD0 CR)) (D_read_part:DR P w K mg base (3*d+3) CR "read_part" ["self","within"] (aAg N CR d)) (c_pairBy:Cal P w K mg base CX0 3 "pair_by" ["word","one","other"] (zR N)):bB P w K mg base CX0 (3*d+4) f fd ["self","one","word","within"] (aF5 N CR d):=by
 refine F.ok zT (λvs H Q E h=>?_) (λcdv A outer s H vs Q E hr h=>?_)
 ·obtain⟨rd,z,g,t,a,x,y,r,va,wi,rfl,_⟩:=h;rfl
 ·obtain⟨rd,z,g,t,a,x,y,r,va,wi,rfl,R,zl,sp,hz,ta,hd,hw,ok,q⟩:=h;have R_rest:=M.rest;have R_cho:=M.cho;obtain⟨dx,hp⟩:=id R;refine⟨_,(aK (fD (cM oG (pv 2) bY (dC _)) (aR (cQ (tK R_rest (hr.mono (by omega)) rfl bG (aN (pv 1) (aN (bH (pv 0) D_read_figures (hr.mono (by omega)) bG) aZ))))) bZ) (aK (gW (i:=4) zT.nd rfl (Bu rfl) (cH (pv 0) D_read_part (hr.mono (by omega)) bG (aN (pv 3) aZ))) (aK (fD (cM oG (pv 2) bY (dC _)) (aK (cV (cH (pv 0) D_pass_by (hr.mono (by omega)) bG (aN bY aZ))) (aR (cQ (tK R_cho (hr.mono (by omega)) rfl bG (aN (pv 1) (aN (pv 4) (aN (cH (pv 0) D_read_part (hr.mono (by omega)) bG (aN (pv 3) aZ)) aZ))))))) bZ) (aR (cQ (aV5 c_pairBy (hr.mono (by omega)) rfl bG (aN (pv 2) (aN (pv 1) (aN (pv 4) aZ))))))))),?_⟩;cases t with
  |num _=>cases sp
  |take _ _=>cases sp
  |rest t1 yy=>
   cases sp;refine⟨_,rfl,rfl,_,rfl,lG (decide_eq_true (congrArg V.str (bN [114,101,115,116] rfl).symm)) ?_⟩;have y1:=ok.1.1;have y2:=ok.1.2.1;obtain⟨m,rfl⟩:∃m:Nat,yy=(m:Int):=⟨yy.toNat,by omega⟩;rw [yV]at hz q;refine⟨_,rfl,_,rfl,rd,CR,dx,_,rfl,hp,rfl,rfl,rd,z,g,m,_,rfl,R,zl,hz,mH rfl,by omega,λH1 k1 R1=>?_⟩;obtain⟨p1,d1,f1,rfl,h1,g1⟩:=ta.kp n R k1;refineλx dx nx nd ne=>⟨x,N.rest,dx,.ref p1,_,rfl,aJ,M.c3,rfl,?_⟩;have sN:fC H1 (upd (upd (upd (upd H1 dx (.own x)) x (.ins N.rest dx [])) x (.ins N.rest dx [("one",.ref p1)])) x (.ins N.rest dx [("one",.ref p1),("by",.int (m:Int))])):=jT nx (aGr nx nd);exact q _ _ (k1.same sN) (R1.same sN) ⟨x,dx,_,rfl,aJ,p1,d1,f1,rfl,sN _ _ h1,g1.same sN⟩
  |cho t1 t2 t3=>
   cases sp;have h2':ht t2+1<=ht (.cho a t2 t3):=Kt (aA6 (by simp [kids]));have h3':ht t3+1<=ht (.cho a t2 t3):=Kt (aA6 (by simp [kids]));have o2:lU t2:=ok.kid (t:= .cho a t2 t3) (by simp [kids]);have o3:lU t3:=ok.kid (t:= .cho a t2 t3) (by simp [kids]);refine⟨_,rfl,rfl,_,rfl,fO (decide_eq_false λe=>by have:=jL ((V.str.inj e).trans (bN [114,101,115,116] rfl));cases this) ?_⟩;have hz0:z.drop g=txt t2++(32::(58::(32::(txt t3++41::r)))):=by rw [hz];simp
   refine⟨_,rfl,rd,CR,dx,_,rfl,hp,rfl,rfl,_,rfl,rd,z,g,t2,_,wi,rfl,R,zl,hz0,mH rfl,by omega,hw,o2,λv2 H2 k2 R2 u2=>?_⟩;have hz1:z.drop (g+(txt t2).length)=[32,58,32]++(txt t3++41::r):=cR hz0;have hz2:=cR hz1;obtain⟨dx2,hp2⟩:=id R2;refine⟨_,rfl,rfl,_,rfl,lG (decide_eq_true (congrArg V.str (bN [63] rfl).symm)) ?_⟩;refine⟨_,rfl,rd,CR,dx2,_,rfl,hp2,rfl,rfl,rd,z,[32,58,32],_,_,aA7 rfl,R2,zl,by decide,hz1,λH3 k3 R3=>?_⟩;obtain⟨dx3,hp3⟩:=id R3;refine⟨_,rfl,_,rfl,_,rfl,rd,CR,dx3,_,rfl,hp3,rfl,rfl,_,rfl,rd,z,_,t3,_,wi,rfl,R3,zl,hz2,mH rfl,by omega,hw,o3,λv3 H4 k4 R4 u3=>?_⟩;obtain⟨p1,d1,f1,rfl,h1,g1⟩:=((ta.kp n R k2).kp n R2 k3).kp n R3 k4;obtain⟨p2,d2,f2,rfl,h2,g2⟩:=(u2.kp n R2 k3).kp n R3 k4;obtain⟨p3,d3,f3,rfl,h3,g3⟩:=u3;refineλx dx nx nd ne=>⟨x,N.cho,dx,.ref p1,.ref p2,.ref p3,rfl,aJ,M.c4,rfl,?_⟩;have sN:fC H4 (upd (upd (upd (upd (upd H4 dx (.own x)) x (.ins N.cho dx [])) x (.ins N.cho dx [("test",.ref p1)])) x (.ins N.cho dx [("test",.ref p1),("one",.ref p2)])) x (.ins N.cho dx [("test",.ref p1),("one",.ref p2),("other",.ref p3)])):=jT nx (jT nx (aGr nx nd));refine q _ _ (((k2.trans k3).trans k4).same sN) ?_ ⟨x,dx,_,rfl,aJ,p1,d1,f1,p2,d2,f2,p3,d3,f3,rfl,⟨sN _ _ h1,g1.same sN⟩,⟨sN _ _ h2,g2.same sN⟩,sN _ _ h3,g3.same sN⟩;have e2:g+(txt t2++(([32,58,32]:List Nat)++txt t3)).length=g+(txt t2).length+([32,58,32]:List Nat).length+(txt t3).length:=by simp only [Ag];omega
   rw [e2];exact R4.same sN
  |bin k t1 t2=>
   cases sp;have h2':ht t2+1<=ht (.bin k a t2):=Kt (aA6 (by simp [kids]));have o2:lU t2:=ok.kid (t:= .bin k a t2) (by simp [kids]);obtain⟨_,n1,n2⟩:=aP3 k;refine⟨_,rfl,rfl,_,rfl,fO (decide_eq_false λe=>n1 (jL ((V.str.inj e).trans (bN [114,101,115,116] rfl)))) ?_⟩;refine⟨_,rfl,rd,CR,dx,_,rfl,hp,rfl,rfl,_,rfl,rd,z,g,t2,_,wi,rfl,R,zl,hz,mH rfl,by omega,hw,o2,λv2 H2 k2 R2 u2=>?_⟩;refine⟨_,rfl,rfl,_,rfl,fO (decide_eq_false λe=>n2 (jL ((V.str.inj e).trans (bN [63] rfl)))) ?_⟩;refine⟨_,rfl,_,rfl,_,rfl,k,a,t2,va,v2,congrArg (λs=>[V.str s,va,v2]) (aFo (opn k)).symm,ta.kp n R k2,u2,λv' H' s' u'=>?_⟩;exact q v' H' (k2.same s') (R2.same s') u'
def sJ:aL ["self","within","one","word","term"] ["self","within"] (aC uN):=⟨rfl,rfl,rfl,by decide+kernel,rfl,by decide+kernel,by decide+kernel⟩
def aPe (F:Fun K "read_bracket" "TermReader.read_bracket" uN f fd) (n:aFn N CR) (D_pass_by:DR P w K mg base 2 CR "pass_by" ["self","signs"] (qZ CR)) (D_read_word:DR P w K mg base 3 CR "read_word" ["self"] (aG1 CR)) (D_read_part:DR P w K mg base (3*d+3) CR "read_part" ["self","within"] (aAg N CR d)) (D_read_behind:DR P w K mg base (3*d+4) CR "read_behind" ["self","one","word","within"] (aF5 N CR d)) (T:Txt K mg):bB P w K mg base CX0 (3*d+5) f fd ["self","within"] (aBu N CR d):=by
 refine F.ok sJ (λvs H Q E h=>?_) (λcdv A outer s H vs Q E hr h=>?_)
 ·obtain⟨rd,z,g,t,a,x,y,r,wi,rfl,_⟩:=h;rfl
 ·obtain⟨rd,z,g,t,a,x,y,r,wi,rfl,R,zl,sp,hz,hd,hw,ok,q⟩:=h;obtain⟨dx,hp⟩:=id R;obtain⟨_,g_MOST_WITHIN⟩:=T.mwi;have tt:=aJr sp;obtain⟨xw,ak⟩:=aVt sp;have ha:=aA6 ak;have oa:=ok.kid ak;refine⟨_,(aK (fD (cM oG (pv 1) (aDy rfl g_MOST_WITHIN) (dC _)) (aR dY) bZ) (aK (cV (cH (pv 0) D_pass_by (hr.mono (by omega)) bG (aN bY aZ))) (aK (gW (i:=2) sJ.nd rfl (Bu rfl) (cH (pv 0) D_read_part (hr.mono (by omega)) bG (aN (qN uM (pv 1) dX) aZ))) (aK (cV (cH (pv 0) D_pass_by (hr.mono (by omega)) bG (aN bY aZ))) (aK (gW (i:=3) sJ.nd rfl (Bu rfl) (bH (pv 0) D_read_word (hr.mono (by omega)) bG)) (aK (cV (cH (pv 0) D_pass_by (hr.mono (by omega)) bG (aN bY aZ))) (aK (gW (i:=4) sJ.nd rfl (Bu rfl) (cH (pv 0) D_read_behind (hr.mono (by omega)) bG (aN (pv 2) (aN (pv 3) (aN (qN uM (pv 1) dX) aZ))))) (aK (cV (cH (pv 0) D_pass_by (hr.mono (by omega)) bG (aN bY aZ))) (aR (cQ (pv 4))))))))))),?_⟩;refine⟨_,rfl,rfl,_,rfl,fO (decide_eq_false λe=>by have:(wi:Int)=12:=V.int.inj e;omega) ?_⟩;have z0:z.drop g=[40]++(txt a++(32::(x++(32::(y++41::r))))):=by rw [hz,tt];simp
  refine⟨_,rfl,rd,CR,dx,_,rfl,hp,rfl,rfl,rd,z,[40],g,_,aA7 rfl,R,zl,by decide,z0,λH1 k1 R1=>?_⟩;have z1:=cR z0;obtain⟨dx1,hp1⟩:=id R1;refine⟨_,rfl,rd,CR,dx1,_,rfl,hp1,rfl,rfl,_,rfl,_,_,rfl,rfl,rd,z,_,a,_,wi+1,rfl,R1,zl,z1,mH rfl,by omega,by omega,oa,λva H2 k2 R2 u2=>?_⟩;have z2:z.drop (g+ [40].length+(txt a).length)=[32]++(x++(32::(y++41::r))):=cR z1;obtain⟨dx2,hp2⟩:=id R2;refine⟨_,rfl,rd,CR,dx2,_,rfl,hp2,rfl,rfl,rd,z,[32],_,_,aA7 rfl,R2,zl,by decide,z2,λH3 k3 R3=>?_⟩;have z3:=cR z2;obtain⟨dx3,hp3⟩:=id R3;refine⟨_,rfl,rd,CR,dx3,_,rfl,hp3,rfl,rfl,rd,z,_,x,_,rfl,R3,zl,xw,z3,λH4 k4 R4=>?_⟩;have z4:=cR z3;have z4:z.drop (g+ [40].length+(txt a).length+ [32].length+x.length)=[32]++(y++41::r):=z4;obtain⟨dx4,hp4⟩:=id R4;refine⟨_,rfl,rd,CR,dx4,_,rfl,hp4,rfl,rfl,rd,z,[32],_,_,aA7 rfl,R4,zl,by decide,z4,λH5 k5 R5=>?_⟩;have z5:=cR z4;obtain⟨dx5,hp5⟩:=id R5;have u5:=((u2.kp n R2 k3).kp n R3 k4).kp n R4 k5;refine⟨_,rfl,rd,CR,dx5,_,rfl,hp5,rfl,rfl,_,rfl,_,rfl,_,rfl,_,_,rfl,rfl,rd,z,_,t,a,x,y,r,va,wi+1,rfl,R5,zl,sp,z5,u5,hd,by omega,ok,λv' H6 k6 R6 u6=>?_⟩;have z6:z.drop (g+ [40].length+(txt a).length+ [32].length+x.length+ [32].length+y.length)=[41]++r:=cR z5;obtain⟨dx6,hp6⟩:=id R6;refine⟨_,rfl,rd,CR,dx6,_,rfl,hp6,rfl,rfl,rd,z,[41],_,_,aA7 rfl,R6,zl,by decide,z6,λH7 k7 R7=>?_⟩;refine⟨_,rfl,?_⟩;refine q v' H7 ((((((k1.trans k2).trans k3).trans k4).trans k5).trans k6).trans k7) ?_ (u6.kp n R6 k7);have e:g+(txt t).length=g+([40]:List Nat).length+(txt a).length+([32]:List Nat).length+x.length+([32]:List Nat).length+y.length+([41]:List Nat).length:=by
   rw [tt];simp only [Ah,Ag,Be];omega
  rw [e];exact R7
def aPm:aL ["self","within"] ["self","within"] (aC zB):=⟨rfl,rfl,rfl,by decide+kernel,rfl,by decide+kernel,by decide+kernel⟩
def aRr (F:Fun K "read_part" "TermReader.read_part" zB f fd) (M:aEs P w K mg base N) (D_ahead:DR P w K mg base 1 CR "ahead" ["self"] (lL CR)) (D_read_number:DR P w K mg base 4 CR "read_number" ["self"] (aD1 CR)) (D_read_take:DR P w K mg base 5 CR "read_take" ["self"] (aC2 N CR)) (D_read_bracket:DR P w K mg base (3*d+5) CR "read_bracket" ["self","within"] (aBu N CR d)):bB P w K mg base CX0 (3*d+6) f fd ["self","within"] (aAg N CR (d+1)):=by
 refine F.ok aPm (λvs H Q E h=>?_) (λcdv A outer s H vs Q E hr h=>?_)
 ·obtain⟨rd,z,g,t,r,wi,rfl,_⟩:=h;rfl
 ·obtain⟨rd,z,g,t,r,wi,rfl,R,zl,hz,nd,hd,hw,ok,q⟩:=h;obtain⟨dx,hp⟩:=id R;have R_num:=M.num;refine⟨_,(aK (fD (cM oG (bH (pv 0) D_ahead (hr.mono (by omega)) bG) bY (dC _)) (aR (cQ (cH (pv 0) D_read_bracket (hr.mono (by omega)) bG (aN (pv 1) aZ)))) bZ) (aK (fD (cM oG (bH (pv 0) D_ahead (hr.mono (by omega)) bG) bY (dC _)) (aR (cQ (bH (pv 0) D_read_take (hr.mono (by omega)) bG))) bZ) (aR (cQ (tK R_num (hr.mono (by omega)) rfl bG (aN (bH (pv 0) D_read_number (hr.mono (by omega)) bG) aZ)))))),?_⟩;refine⟨_,rfl,rd,CR,dx,_,rfl,hp,rfl,rfl,rd,z,g,rfl,R,zl,rfl,_,rfl,?_⟩;cases hs:spl t with
  |some w3=>
   obtain⟨a,x,y⟩:=w3;rw [take1 (c:=40) (r:=txt a++(32::(x++(32::(y++41::r))))) (by rw [hz,aJr hs];simp)];refine lG (decide_eq_true (congrArg V.str (bN [40] rfl).symm)) ?_;exact⟨_,rfl,rd,CR,dx,_,rfl,hp,rfl,rfl,_,rfl,rd,z,g,t,a,x,y,r,wi,rfl,R,zl,hs,hz,hd,hw,ok,λv' H1 k1 R1 u1=>q v' H1 k1 R1 u1⟩
  |none=>
   cases t with
   |rest _ _=>cases hs
   |cho _ _ _=>cases hs
   |bin _ _ _=>cases hs
   |take b ss=>
    obtain⟨g1,l1,l3⟩:=ok.2 (b,ss) Ae;rw [take1 (c:=91) (r:=itx b++(tl ss++93::r)) (by rw [hz,zJ];simp)];refine fO (decide_eq_false λx=>by have:=jL ((V.str.inj x).trans (bN [40] rfl));injection this with h1;omega) ?_;refine⟨_,rfl,rd,CR,dx,_,rfl,hp,rfl,rfl,rd,z,g,rfl,R,zl,rfl,_,rfl,?_⟩;rw [take1 (c:=91) (r:=itx b++(tl ss++93::r)) (by rw [hz,zJ];simp)];refine lG (decide_eq_true (congrArg V.str (bN [91] rfl).symm)) ?_;exact⟨_,rfl,rd,CR,dx,_,rfl,hp,rfl,rfl,rd,z,g,b,ss,r,rfl,R,zl,hz,g1,l1,l3,λv' H1 k1 R1 u1=>q v' H1 k1 R1 u1⟩
   |num m=>
    have h1:=ok.1;have hz:z.drop g=itx m++r:=hz;obtain⟨ch,rs,ec,hc⟩:∃c rs,itx m=c::rs/\c≠40/\c≠91:=by
     cases m with
     |ofNat k=>
      rw [show Rv k=(k:Int)from rfl,yV];rcases Fe k with h0|h0
      ·exact⟨48,[],by rw [h0,yX],by omega,by omega⟩
      ·obtain⟨c,r,e,h1,h2⟩:=vP k h0;exact⟨c,r,e,by omega,by omega⟩
     |negSucc k=>exact⟨45,_,aD2 k,by omega,by omega⟩
    rw [take1 (c:=ch) (r:=rs++r) (by rw [hz,ec];rfl)];refine fO (decide_eq_false λx=>by have:=jL ((V.str.inj x).trans (bN [40] rfl));injection this with h1;exact hc.1 h1) ?_;refine⟨_,rfl,rd,CR,dx,_,rfl,hp,rfl,rfl,rd,z,g,rfl,R,zl,rfl,_,rfl,?_⟩;rw [take1 (c:=ch) (r:=rs++r) (by rw [hz,ec];rfl)];refine fO (decide_eq_false λx=>by have:=jL ((V.str.inj x).trans (bN [91] rfl));injection this with h1;exact hc.2 h1) ?_;refine⟨_,rfl,rd,CR,dx,_,rfl,hp,rfl,rfl,rd,z,g,m,r,rfl,R,zl,hz,nd,by simp only [Wf]at h1;omega,λH1 k1 R1=>?_⟩;refineλx dx nx nd ne=>⟨x,N.num,dx,.int m,rfl,aJ,M.c1,rfl,?_⟩;exact q _ _ (k1.same (aGr nx nd)) (R1.same (aGr nx nd)) ⟨x,dx,_,rfl,aJ,rfl⟩
end
inductive aTe (K:Ac) (vs:List V) (H:Hp) (Q:VK) (z3_:XK):Prop
 |mk (p C dx:Addr) (x:V) (q0_:vs=[.ref p,x]) (q1_:H p=some (.ins C dx [])) (q2_:Cf K C FR) (q3_:Q .non (upd (upd H p (.ins C dx [("text",x)])) p (.ins C dx [("text",x),("gone",aBd 0)]))):aTe K vs H Q z3_
def aVh (K:Ac):Sp:=λvs H Q z3_=>aTe K vs H Q z3_
inductive aA0 (N:Cn) (vs:List V) (H:Hp) (Q:VK) (z3_:XK):Prop
 |mk (t:Tm) (q0_:vs=[.str (tx (txt t))]) (q1_:ht t<=8) (q2_:lU t) (q3_:dG t<=40) (q4_:∀(v':V) (H':Hp),fC H H'->lK N H' t v'->Q v' H'):aA0 N vs H Q z3_
def aB3 (N:Cn):Sp:=λvs H Q z3_=>aA0 N vs H Q z3_
section
variable {P:Program} {w:World} {K:Ac} {mg:Str->Option Value} {base:Heap} {CR:Addr} {N:Cn}
def aNh:aL ["self","text"] ["self","text"] (aC aDd):=⟨rfl,rfl,rfl,by decide+kernel,rfl,by decide+kernel,by decide+kernel⟩
def aKs (F:Fun K "__init__" "TermReader.__init__" aDd f fd):bB P w K mg base CX0 1 f fd ["self","text"] (aVh K):=by
 refine F.ok aNh (λvs H Q E h=>?_) (λcdv A outer s H vs Q E hr h=>?_)
 ·obtain⟨p,C,dx,x,rfl,_⟩:=h;rfl
 ·obtain⟨p,C,dx,x,rfl,hp,c,q⟩:=h;refine⟨_,(aK (dF (pv 0) (pv 1) rfl) (aR (dF (pv 0) dX rfl))),?_⟩;refine⟨_,rfl,_,rfl,p,C,dx,_,rfl,hp,c.cl,c.na _ (by simp),by decide,?_⟩;exact⟨_,rfl,p,C,dx,_,rfl,aJ,c.cl,c.na _ (by simp),by show(1:Nat)<1000;decide,q⟩
def wR:aL ["text","reader","term"] ["text"] (aC aAu):=⟨rfl,rfl,rfl,by decide+kernel,rfl,by decide+kernel,by decide+kernel⟩
def aGo (F:Fun K "read_written" "read_written" aAu f fd) (R_rd:Mkr P w K mg base CR "TermReader" ["self","text"] (aVh K)) (c:Cf K CR FR) (n:aFn N CR) (D_read_part:DR P w K mg base 27 CR "read_part" ["self","within"] (aAg N CR 8)) (T:Txt K mg):bB P w K mg base CX0 28 f fd ["text"] (aB3 N):=by
 refine F.ok wR (λvs H Q E h=>?_) (λcdv A outer s H vs Q E hr h=>?_)
 ·obtain⟨t,rfl,_⟩:=h;rfl
 ·obtain⟨t,rfl,hd,ok,pr,q⟩:=h;have tl:=nF ok;refine⟨_,(aK (fD (aC9 (aA5 (gR xR rfl T.isinstance Vs (aN (pv 0) (aN (aX8 rfl T.str Nf) aZ))))) (aR dY) bZ) (aK (gW (i:=1) wR.nd rfl (Bu rfl) (tK R_rd (hr.mono (by omega)) rfl bG (aN (pv 0) aZ))) (aK (gW (i:=2) wR.nd rfl (Bu rfl) (cH (pv 1) D_read_part (hr.mono (by omega)) bG (aN dX aZ))) (aK (fD (cM aJj (mK (pv 1) rfl) (gR aDx (by rfl) T.len Md (aN (pv 0) aZ)) (dC _)) (aR dY) bZ) (aR (cQ (pv 2))))))),?_⟩;refine⟨_,rfl,_,"str",_,true,rfl,.str _,rfl,_,rfl,?_⟩;refine qP ?_;refine⟨_,rfl,λx dx nx nd ne=>⟨x,CR,dx,_,rfl,aJ,c,rfl,?_⟩⟩;have sN:fC H (upd (upd (upd (upd H dx (.own x)) x (.ins CR dx [])) x (.ins CR dx [("text",.str (tx (txt t)))])) x (.ins CR dx [("text",.str (tx (txt t))),("gone",aBd 0)])):=jT nx (aGr nx nd);revert sN;generalize eH:upd (upd (upd (upd H dx (.own x)) x (.ins CR dx [])) x (.ins CR dx [("text",.str (tx (txt t)))])) x (.ins CR dx [("text",.str (tx (txt t))),("gone",aBd 0)])=H1;intro sN;have hp1:H1 x=some (.ins CR dx [("text",.str (tx (txt t))),("gone",aBd 0)]):=by rw [<-eH];exact aJ
  refine⟨_,rfl,x,CR,dx,_,rfl,hp1,rfl,rfl,x,txt t,0,t,[],0,rfl,⟨dx,hp1⟩,by omega,by simp,(λ_ _ e=>by cases e),hd,by omega,ok,λv' H2 k2 R2 u2=>?_⟩;obtain⟨dx2,hp2⟩:=id R2;have s02:fC H H2:=λb o e=>k2 b o (sN b o e) λz=>by rw [z,nx]at e;cases e
  refine⟨_,rfl,x,CR,dx2,_,_,rfl,hp2,c.cl,c.na _ (by simp),rfl,_,rfl,_,rfl,aIx (by rw [gK];omega),?_⟩;refine⟨rfl,_,rfl,?_⟩;rw [gK,Jj];refine aNr rfl ?_;exact⟨_,rfl,q v' H2 s02 u2⟩
end
end KR
namespace Q
variable {us:List Value} {ns:List Int} {ps:List Str} {t:Tm} {ys:List Tk} {n:Nat} {k:Nat} {ts:List Tm} {x q:Str} {g1 g2 g3 g4:FuncData} {R:Sl->Prop} {rs:List Rim} {fs:List Str} {ls:List (List Int)} {zs:List Tk} {f1 f2 f3 f4:Addr} {l:List Tk} {H:Hp} {r:Int}
open PySem PyProof.Rows L2 KR
def enc (N:Cn):Tm->U
 | .num n=> .ob N.num ["value"] [.n n]
 | .take b ss=> .ob N.take ["back","steps"] [.n b,.tp (ss.map U.n)]
 | .rest t y=> .ob N.rest ["one","by"] [enc N t,.n y]
 | .cho a b c=> .ob N.cho ["test","one","other"] [enc N a,enc N b,enc N c]
 | .bin k a b=> .ob (N.bin k) ["one","other"] [enc N a,enc N b]
def aB9 {W B:Addr->Prop} {p:Addr} {o:HO} (e:EB W B H) (h:H p=some o) (n:¬Mt o):¬B p:=λz=>by
 obtain⟨xs,q,m⟩:=e.bl p z;rw [h]at q;cases q;exact n m
theorem uH {W B:Addr->Prop} {H:Hp} {N:Cn} (e:EB W B H):∀{t:Tm} {p dx:Addr} {fs:List (Str×V)},H p=some (.ins (cls N t) dx fs)->kI N H fs t->DU W B H (enc N t) (.ref p)
 | .num n,p,dx,fs,h,hf=>by
  obtain rfl:=hf;exact⟨p,dx,[.int n],rfl,aB9 e h id,h,rfl,_,_,rfl,⟨rfl,rfl⟩,rfl⟩
 | .take b ss,p,dx,fs,h,hf=>by
  obtain⟨q,rfl,hq⟩:=hf;exact⟨p,dx,[.int b,.ref q],rfl,aB9 e h id,h,rfl,_,_,rfl,⟨rfl,rfl⟩,_,_,rfl,⟨q,_,rfl,aB9 e hq id,hq,DUs.mapInts⟩,rfl⟩
 | .rest t y,p,dx,fs,h,hf=>by
  obtain⟨q,dq,gs,rfl,hq,f⟩:=hf;exact⟨p,dx,[.ref q,.int y],rfl,aB9 e h id,h,rfl,_,_,rfl,uH e hq f,_,_,rfl,⟨rfl,rfl⟩,rfl⟩
 | .cho a b c,p,dx,fs,h,hf=>by
  obtain⟨q1,d1,g1,q2,d2,g2,q3,d3,g3,rfl,⟨h1,f1⟩,⟨h2,f2⟩,h3,f3⟩:=hf;exact⟨p,dx,[.ref q1,.ref q2,.ref q3],rfl,aB9 e h id,h,rfl,_,_,rfl,uH e h1 f1,_,_,rfl,uH e h2 f2,_,_,rfl,uH e h3 f3,rfl⟩
 | .bin k a b,p,dx,fs,h,hf=>by
  obtain⟨q1,d1,g1,q2,d2,g2,rfl,⟨h1,f1⟩,h2,f2⟩:=hf;exact⟨p,dx,[.ref q1,.ref q2],rfl,aB9 e h id,h,rfl,_,_,rfl,uH e h1 f1,_,_,rfl,uH e h2 f2,rfl⟩
def aVd {W B:Addr->Prop} {N:Cn} {v:V} (e:EB W B H) (h:lK N H t v):DU W B H (enc N t) v:=by
 obtain⟨p,dx,fs,rfl,h1,h2⟩:=h;exact uH e h1 h2
def fX {N:Cn} {m:Str} {F:Addr->Fv} {G:TVa} {ρ:EV} (t:Tm) (h1:(["value","back","steps","one","by","test","other"]:List Str).elem m=false) (h:G ρ λvs=>F (cls N t) (enc N t::vs) R):mOb (IsC N) m F G ρ R (enc N t):=by
 have hc:=isC N t;have k:∀ns:List Str,(∀x∈ns,x∈(["value","back","steps","one","by","test","other"]:List Str))->ns.elem m=false:=λns hn=>by
  cases q:ns.elem m with
  |false=>rfl
  |true=>
   have:=hn m (List.elem_iff.mp q);rw [List.elem_iff.mpr this]at h1;cases h1
 cases t with
 |num n=>exact⟨hc,k _ (by simp),h⟩
 |take b ss=>exact⟨hc,k _ (by simp),h⟩
 |rest t y=>exact⟨hc,k _ (by simp),h⟩
 |cho a b c=>exact⟨hc,k _ (by simp),h⟩
 |bin j a b=>exact⟨hc,k _ (by simp),h⟩
def iW (N:Cn) (C:Addr):Fv:=λus R=>∃t,us=[enc N t]/\cls N t=C/\R (.ow ((kids t).map (enc N)))
variable {P:Program} {w:World} {K:Ac} {mg:Str->Option Value} {base:Heap} {f C:Addr} {fd:FuncData} {N:Cn}
def aBm:aL ["self"] ["self"] (aC lQ):=⟨rfl,rfl,rfl,by decide+kernel,rfl,by decide+kernel,by decide+kernel⟩
def aCs (F:Fun K "inner" "Term.inner" lQ f fd) (hC:∀t,cls N t=C->kids t=[]):bB P w K mg base CX0 1 f fd ["self"] (spV (iW N C)):=by
 refine vfn F aBm (λcdv A outer s H E hr=>(aG (aV (cD aH)))) ?_;rintro _ R ⟨t,rfl,e,q⟩;rw [hC t e]at q;exact⟨rfl,q⟩
def yF:aL ["self"] ["self"] (aC iV):=⟨rfl,rfl,rfl,by decide+kernel,rfl,by decide+kernel,by decide+kernel⟩
def aLh {k:Fin 5} (F:Fun K "inner" "Paired.inner" iV f fd) (cP:Cfl K (N.bin k) ["one","other"]) (hC:∀t,cls N t=N.bin k->∃a b,t= .bin k a b):bB P w K mg base CX0 1 f fd ["self"] (spV (iW N (N.bin k))):=by
 refine vfn F yF (λcdv A outer s H E hr=>(aG (aV (cD (aB (dI cP (aA 0)) (aB (dI cP (aA 0)) aH)))))) ?_;rintro _ R ⟨t,rfl,e,q⟩;obtain⟨a,b,rfl⟩:=hC t e;exact⟨rfl,rfl,.inl ⟨rfl,rfl,.inr ⟨by decide+kernel,.inl ⟨rfl,q⟩⟩⟩⟩
def aBc:aL ["self"] ["self"] (aC lM):=⟨rfl,rfl,rfl,by decide+kernel,rfl,by decide+kernel,by decide+kernel⟩
def aLm (F:Fun K "inner" "Rest.inner" lM f fd) (cP:Cfl K N.rest ["one","by"]) (hC:∀t,cls N t=N.rest->∃a y,t= .rest a y):bB P w K mg base CX0 1 f fd ["self"] (spV (iW N N.rest)):=by
 refine vfn F aBc (λcdv A outer s H E hr=>(aG (aV (cD (aB (dI cP (aA 0)) aH))))) ?_;rintro _ R ⟨t,rfl,e,q⟩;obtain⟨a,b,rfl⟩:=hC t e;exact⟨rfl,rfl,.inl ⟨rfl,q⟩⟩
def xW:aL ["self"] ["self"] (aC jB):=⟨rfl,rfl,rfl,by decide+kernel,rfl,by decide+kernel,by decide+kernel⟩
def aKf (F:Fun K "inner" "Chosen.inner" jB f fd) (cP:Cfl K N.cho ["test","one","other"]) (hC:∀t,cls N t=N.cho->∃a b c,t= .cho a b c):bB P w K mg base CX0 1 f fd ["self"] (spV (iW N N.cho)):=by
 refine vfn F xW (λcdv A outer s H E hr=>(aG (aV (cD (aB (dI cP (aA 0)) (aB (dI cP (aA 0)) (aB (dI cP (aA 0)) aH))))))) ?_;rintro _ R ⟨t,rfl,e,q⟩;obtain⟨a,b,c,rfl⟩:=hC t e;exact⟨rfl,rfl,.inl ⟨rfl,rfl,.inr ⟨by decide+kernel,.inl ⟨rfl,rfl,.inr ⟨by decide+kernel,.inr ⟨by decide+kernel,.inl ⟨rfl,q⟩⟩⟩⟩⟩⟩⟩
def aCr (h:l.Pairwise λx y=>mO x y=true):l.Nodup:=h.imp λ{x y} h z=>by
 subst z;rw [aB4 h]at h;cases h
def Few (t:Tm):Prop:=∃ks:List Tk,ks.length<18/\∀x∈raw t,x∈ks
def yZ (f:Few t) (h:qT t l):l.length<=17:=by
 obtain⟨ks,kl,km⟩:=f;have:=(aCr h.1).length_le_of_subset (l₂:=ks) λx hx=>km x ((h.2 x).mp hx);omega
def aOs:∀{t:Tm},(∀b ss,t≠ .take b ss)->∀x,x∈raw t↔ ∃k∈kids t,x∈raw k
 | .num _,_,x=>by simp [raw,kids]
 | .take b ss,h,x=>(h b ss rfl).elim
 | .rest t _,_,x=>by simp [raw,kids]
 | .cho a b c,_,x=>by simp [raw,kids]
 | .bin _ a b,_,x=>by simp [raw,kids]
def yJ (t:Tm) {d:Nat} (h:ht t<=d+1):∀k∈kids t,ht k<=d:=λk hk=>by have:=aA6 hk;omega
def rT (N:Cn) (d:Nat) (C:Addr):Fv:=λus R=>∃t,us=[enc N t]/\cls N t=C/\ht t<=d/\Few t/\∀ys,qT t ys->R (.ow (ys.map tkU))
abbrev kW (P:Program) (w:World) (K:Ac) (mg:Str->Option Value) (base:Heap) (N:Cn) (k:Nat) (m:Str) (F:Addr->Fv):Prop:=Dis P w K mg base CX0 k (IsC N) m ["self"] λC=>spV (F C)
variable {d:Nat}
def nJ:aL ["self","pairs","part"] ["self"] (aC lO):=⟨rfl,rfl,rfl,by decide+kernel,rfl,by decide+kernel,by decide+kernel⟩
def aLa (F:Fun K "takes" "Term.takes" lO f fd) (hC:∀t,cls N t=C->∀b ss,t≠ .take b ss) (D_inner:kW P w K mg base N 1 "inner" (iW N)) (D_takes:kW P w K mg base N (d+1) "takes" (rT N d)) (T:Txt mg):bB P w K mg base CX0 (d+2) f fd ["self"] (spV (rT N (d+1) C)):=by
 refine vfn F nJ (λcdv A outer s H E hr=>(aD (bD (i:=1) nJ.nd (cD aH)) (aD (eV Bd rfl (bT (cI (aA 0) D_inner (hr.mono (by omega)))) (dR (i:=2) nJ.nd) (aG (aMx 1 (cI (aA 2) D_takes (hr.mono (by omega)))))) (aG (aV (aDm hr rfl T.sorted T.set (aP (aA 1) aY))))))) ?_;rintro _ R ⟨t,rfl,e,hd,fw,q⟩;refine⟨rfl,fX t (by decide+kernel) ⟨t,rfl,rfl,?_⟩⟩;refine cC (λl ρ=>∃(ks js:List Tm) (ps:List Tk) (x:Sl),l=ks.map (enc N)/\js++ks=kids t/\ρ=[.sh (enc N t),.ow (ps.map tkU),x]/\ps.length<=17*js.length/\∀y,y∈ps↔ ∃k∈js,y∈raw k) ?_ ?_ ⟨kids t,[],[],_,rfl,rfl,rfl,Am _,by simp⟩
 ·rintro ρ ⟨ks,js,ps,x,el,ej,rfl,pl,pm⟩;obtain rfl:=List.map_eq_nil_iff.mp el.symm;rw [Bg]at ej;subst ej;have kl:=yW t;obtain⟨zs,zl,zm⟩:=fw;have rk:=aOs (hC t e);exact⟨ps,zs,rfl,by omega,zl,λy hy=>zm y ((rk y).mpr ((pm y).mp hy)),λys pw ym=>q ys ⟨pw,λy=>(ym y).trans ((pm y).trans (rk y).symm)⟩⟩
 ·rintro u r ρ ⟨ks,js,ps,x,el,ej,rfl,pl,pm⟩ ih;obtain⟨k,ks,rfl,rfl,rfl⟩:=List.map_eq_cons_iff.mp el.symm;have hk:k∈kids t:=by rw [<-ej];simp
  have fk:Few k:=let⟨zs,zl,zm⟩:=fw;⟨zs,zl,λy hy=>zm y (aI3 hk y hy)⟩;refine fX k (by decide+kernel) ⟨k,rfl,rfl,yJ t hd k hk,fk,λys ik=>?_⟩;have yl:=yZ fk ik;have kl:=yW t;have jl:js.length+(ks.length+1)<=3:=by rw [<-ej,Ag,Ah]at kl;exact kl
  refine⟨by rw [Ab,Ab];omega,ih _ ⟨ks,js++[k],ps++ys,_,rfl,by rw [Bi];exact ej,by rw [Ay];rfl,by rw [Ag,Ag];show _<=17*(js.length+1);omega,λy=>?_⟩⟩;rw [Gi,pm y,ik.2 y];constructor
  ·rintro(⟨j,hj,hy⟩|hy)
   ·exact⟨j,Es _ hj,hy⟩
   ·exact⟨k,by simp,hy⟩
  ·rintro⟨j,hj,hy⟩;rcases List.mem_append.mp hj with hj|hj
   ·exact .inl ⟨j,hj,hy⟩
   ·rw [List.mem_singleton.mp hj]at hy;exact .inr hy
def aBl:aL ["self"] ["self"] (aC lV):=⟨rfl,rfl,rfl,by decide+kernel,rfl,by decide+kernel,by decide+kernel⟩
def aLt (F:Fun K "takes" "Take.takes" lV f fd) (cK:Cfl K N.take ["back","steps"]) (hC:∀t,cls N t=N.take->∃b ss,t= .take b ss):bB P w K mg base CX0 (d+2) f fd ["self"] (spV (rT N (d+1) N.take)):=by
 refine vfn F aBl (λcdv A outer s H E hr=>(aG (aV (cD (aB (cY (aB (dI cK (aA 0)) (aB (dI cK (aA 0)) aH))) aH))))) ?_;rintro _ R ⟨t,rfl,e,hd,fw,q⟩;obtain⟨b,ss,rfl⟩:=hC t e;exact⟨rfl,rfl,.inl ⟨rfl,rfl,.inr ⟨by decide+kernel,.inl ⟨rfl,q [(b,ss)] ⟨Nh ..,λ_=>Mh⟩⟩⟩⟩⟩
def aEu (N:Cn) (g:Tm->Nat) (d:Nat) (C:Addr):Fv:=λus R=>∃t,us=[enc N t]/\cls N t=C/\ht t<=d/\dG t<=200/\R (.sh (.n (g t)))
def zO:∀{t k:Tm},k∈kids t->dG k<=dG t
 | .rest t _,k,h=>by rw [List.mem_singleton.mp h,dG];omega
 | .cho a b c,k,h=>by
  simp only [kids,Ca,Bm,or_false]at h;rw [dG];rcases h with rfl|rfl|rfl<;>omega
 | .bin _ a b,k,h=>by
  simp only [kids,Ca,Bm,or_false]at h;rw [dG];rcases h with rfl|rfl<;>omega
def aPy (t:Tm):∀m:Int,(kids t=[]/\m=0)∨(m∈(kids t).map (λk=>(ht k:Int))/\∀a∈(kids t).map (λk=>(ht k:Int)),a<=m)->1+m=(ht t:Int):=by
 intro m h;cases t with
 |num n=>rcases h with ⟨_,h⟩|⟨h,_⟩<;>simp [kids,ht]at h⊢;omega
 |take b ss=>rcases h with ⟨_,h⟩|⟨h,_⟩<;>simp [kids,ht]at h⊢;omega
 |rest t y=>rcases h with ⟨h,_⟩|⟨h,_⟩<;>simp [kids,ht]at h⊢;omega
 |cho a b c=>rcases h with ⟨h,_⟩|⟨h,g⟩<;>simp [kids,ht]at h⊢;simp [kids]at g;omega
 |bin k a b=>rcases h with ⟨h,_⟩|⟨h,g⟩<;>simp [kids,ht]at h⊢;simp [kids]at g;omega
def aMw (t:Tm):1+((kids t).map (λk=>(dG k:Int))).sum=(dG t:Int):=by
 cases t<;>simp [kids,dG]<;>omega
def ints_map {g:Tm->Nat} (ks:List Tm):ks.map (λk=>U.n (g k))=(ks.map λk=>(g k:Int)).map U.n:=by rw [Bk];rfl
def aFs {g:Tm->Nat} {h:U->(Option U->Prop)->Prop} {R:List U->Prop} (hf:∀k∈kids t,∀c:Option U->Prop,c (some (.n (g k)))->h (enc N k) c) (q:R (((kids t).map λk=>(g k:Int)).map U.n)):gD h ((kids t).map (enc N)) [] R:=by
 rw [<-ints_map]at q;revert hf q;generalize kids t=ks;have key:∀(ks:List Tm) (acc:List U),(∀k∈ks,∀c:Option U->Prop,c (some (.n (g k)))->h (enc N k) c)->R (acc++ks.map λk=>U.n (g k))->gD h (ks.map (enc N)) acc R:=by
  intro ks;induction ks with
  |nil=>exactλacc _ q=>by rw [Dn,Bg]at q;exact q
  |cons k ks ih=>exactλacc hf q=>hf k Ae _ (ih _ (λj hj=>hf j (Ad _ hj)) (by rw [Bi];exact q))
 exactλhf q=>key ks [] hf q
abbrev aC6:List Str:=["self"]
def aBb:aL ["self"] ["self"] (aC iJ):=⟨rfl,rfl,rfl,by decide+kernel,rfl,by decide+kernel,by decide+kernel⟩
def aKj (F:Fun K "depth" "Term.depth" iJ f fd) (D_inner:kW P w K mg base N 1 "inner" (iW N)) (D_depth:kW P w K mg base N (d+1) "depth" (aEu N ht d)) (T:Txt mg):bB P w K mg base CX0 (d+2) f fd ["self"] (spV (aEu N ht (d+1) C)):=by
 refine vfn F aBb (λcdv A outer s H E hr=>(aG (aV (aU bA bM aF (aI6 rfl T.max (aP (mL (own:=["part"]) (cap:=[]) (aC iJ) aC6 rfl rfl (λx h=>bO h) (by decide+kernel) rfl (vic (bT (cI (aA 0) D_inner (hr.mono (by omega))))) (λcl C s2 H2 fp=>(bL (i:=0) (show(["part"]:List Str).Nodup by decide+kernel) rfl (Bu rfl) (Bz rfl))) (cT (by decide)) (λcl C s2 H2 fp=>(cI (aA 0) D_depth (hr.mono (by omega))))) aY) aF))))) ?_;rintro _ R ⟨t,rfl,e,hd,hp,q⟩;refine⟨rfl,fX t (by decide+kernel) ⟨t,rfl,rfl,?_⟩⟩;refine⟨by have:=yW t;rw [Ab];omega,aFs (g:=ht) (λk hk c hc=>fX k (by decide+kernel) ⟨k,rfl,rfl,yJ t hd k hk,by have:=zO hk;omega,hc⟩) ?_⟩;refine⟨_,rfl,λh=>?_,λm hm ha=>?_⟩
 ·have:=aPy t 0 (.inl ⟨List.map_eq_nil_iff.mp h,rfl⟩);rw [<-this]at q;exact q
 ·have:=aPy t m (.inr ⟨hm,ha⟩);rw [<-this]at q;exact q
abbrev aDb:List Str:=["self"]
def aA9:aL ["self"] ["self"] (aC jA):=⟨rfl,rfl,rfl,by decide+kernel,rfl,by decide+kernel,by decide+kernel⟩
def aLk (F:Fun K "parts" "Term.parts" jA f fd) (D_inner:kW P w K mg base N 1 "inner" (iW N)) (D_parts:kW P w K mg base N (d+1) "parts" (aEu N dG d)) (T:Txt mg):bB P w K mg base CX0 (d+2) f fd ["self"] (spV (aEu N dG (d+1) C)):=by
 refine vfn F aA9 (λcdv A outer s H E hr=>(aG (aV (aU bA bM aF (bJ (aO8 rfl) aVs T.sum boot_sum (aP (mL (own:=["part"]) (cap:=[]) (aC jA) aDb rfl rfl (λx h=>bO h) (by decide+kernel) rfl (vic (bT (cI (aA 0) D_inner (hr.mono (by omega))))) (λcl C s2 H2 fp=>(bL (i:=0) (show(["part"]:List Str).Nodup by decide+kernel) rfl (Bu rfl) (Bz rfl))) (cT (by decide)) (λcl C s2 H2 fp=>(cI (aA 0) D_parts (hr.mono (by omega))))) aY)))))) ?_;rintro _ R ⟨t,rfl,e,hd,hp,q⟩;have kl:=yW t;refine⟨rfl,fX t (by decide+kernel) ⟨t,rfl,rfl,?_⟩⟩;refine⟨by rw [Ab];omega,aFs (g:=dG) (λk hk c hc=>fX k (by decide+kernel) ⟨k,rfl,rfl,yJ t hd k hk,by have:=zO hk;omega,hc⟩) ?_⟩;refine⟨_,rfl,by rw [Ab];omega,λn hn=>?_,?_⟩
 ·obtain⟨k,hk,rfl⟩:=List.mem_map.mp hn;have:=zO hk;omega
 ·have:=aMw t;rw [<-this]at q;exact q
def aHt:Fv:=λus R=>∃ss:List Int,us=[.tp (ss.map U.n)]/\1<=ss.length/\ss.length<=3/\(∀s∈ss, -9<=s/\s<=9)/\R (.sh (.b true))
abbrev aF9:List Str:=["thing"]
def aDz:aL ["thing"] ["thing"] (aC nG):=⟨rfl,rfl,rfl,by decide+kernel,rfl,by decide+kernel,by decide+kernel⟩
def aQg (F:Fun K "are_steps" "are_steps" nG f fd) (c_is_within:Cal P w K mg base CX0 2 "is_within" PW3 (spV jV)) (T:Txt mg):bB P w K mg base CX0 3 f fd ["thing"] (spV aHt):=by
 obtain⟨_,g_MOST_STEPS_terms⟩:=T.c_MOST_STEPS_terms;obtain⟨_,g_GREATEST_STEP⟩:=T.c_GREATEST_STEP;refine vfn F aDz (λcdv A outer s H E hr=>(aD (cW (tR (xH (gF (iG (rK .tp nofun T.isinstance T.tuple Mb (aA 0)))) (qU (gF (wB uT uT cF cF aF (bJ aX dO T.len Ek (aP (aA 0) aY)) (dM g_MOST_STEPS_terms)))))) (aG (aV tG)) bK) (aG (aV (bJ zV (aHn rfl) T.all boot_all (aP (mL (own:=["step"]) (cap:=[]) (aC nG) aF9 rfl rfl (λx h=>bO h) (by decide+kernel) rfl (vic (aNt (aA 0))) (λcl C s2 H2 fp=>(bL (i:=0) (show(["step"]:List Str).Nodup by decide+kernel) rfl (Bu rfl) (Bz rfl))) (cT (by decide)) (λcl C s2 H2 fp=>(aO c_is_within (hr.mono (by decide)) rfl (aB (aA 0) (aB (aNu (dM g_GREATEST_STEP)) (aB (dM g_GREATEST_STEP) aH)))))) aY)))))) ?_;rintro _ R ⟨ss,rfl,l1,l3,hs,q⟩;have e1:(ss.map U.n).length=ss.length:=Ab ..;refine⟨rfl,_,rfl,nofun,λ_=>⟨λ_=>⟨λh=>?_,λ_=>?_⟩,λh=>?_⟩⟩
 ·simp at h;omega
 ·refine⟨by omega,eY (h:=λ_=> .b true) (λu hu k hk=>?_) ?_⟩
  ·obtain⟨s,hs',rfl⟩:=List.mem_map.mp hu;have:=hs s hs';refine⟨_,_,_,_,rfl,rfl,?_⟩;show k (some (.b (isIn (.n s) (-9) 9)));rw [show isIn (.n s) (-9) 9=true by simp [isIn,this.1,this.2]];exact hk
  ·refine⟨ss.map λ_=>true,by rw [Bk,Bk];rfl,?_⟩;exact Rbl q (by simp)
 ·simp at h;omega
def rN (N:Cn) (C:Addr):Fv:=λus R=>∃t,us=[enc N t]/\cls N t=C/\lU t/\R (.sh .no)
def vK:aL ["self"] ["self"] (aC fZ):=⟨rfl,rfl,rfl,by decide+kernel,rfl,by decide+kernel,by decide+kernel⟩
def aCv (F:Fun K "own_fault" "Term.own_fault" fZ f fd):bB P w K mg base CX0 4 f fd ["self"] (spV (rN N C)):=by
 refine bB.mono (vfn F vK (λcdv A outer s H E (hr:dH 0 _)=>(aG (aV pX))) ?_) (by decide);rintro _ R ⟨t,rfl,e,ok,q⟩;exact⟨rfl,q⟩
def sY:aL ["self"] ["self"] (aC eG):=⟨rfl,rfl,rfl,by decide+kernel,rfl,by decide+kernel,by decide+kernel⟩
def aKo (F:Fun K "own_fault" "Number.own_fault" eG f fd) (cN:Cfl K N.num ["value"]) (hC:∀t,cls N t=N.num->∃n,t= .num n) (c_is_within:Cal P w K mg base CX0 2 "is_within" PW3 (spV jV)) (T:Txt mg):bB P w K mg base CX0 4 f fd ["self"] (spV (rN N N.num)):=by
 obtain⟨_,g_GREATEST_NUMBER⟩:=T.c_GREATEST_NUMBER;refine vfn F sY (λcdv A outer s H E hr=>(aD (cW (iG (aO c_is_within (hr.mono (by decide)) rfl (aB (dI cN (aA 0)) (aB (aNu (dM g_GREATEST_NUMBER)) (aB (dM g_GREATEST_NUMBER) aH))))) (aG (aV pX)) bK) (aG (aV bQ)))) ?_;rintro _ R ⟨t,rfl,e,ok,q⟩;obtain⟨n,rfl⟩:=hC t e;have h:=ok.1;simp only [Wf]at h;refine⟨rfl,rfl,.inl ⟨rfl,_,_,_,_,rfl,rfl,λ_=>q,λz=>?_⟩⟩;simp [isIn,h.1,h.2]at z
def vN:aL ["self"] ["self"] (aC gC):=⟨rfl,rfl,rfl,by decide+kernel,rfl,by decide+kernel,by decide+kernel⟩
def aKe (F:Fun K "own_fault" "Take.own_fault" gC f fd) (cK:Cfl K N.take ["back","steps"]) (hC:∀t,cls N t=N.take->∃b ss,t= .take b ss) (c_is_within:Cal P w K mg base CX0 2 "is_within" PW3 (spV jV)) (c_are_steps:Cal P w K mg base CX0 3 "are_steps" ["thing"] (spV aHt)) (T:Txt mg):bB P w K mg base CX0 4 f fd ["self"] (spV (rN N N.take)):=by
 obtain⟨_,g_GREATEST_BACK⟩:=T.c_GREATEST_BACK;refine vfn F vN (λcdv A outer s H E hr=>(aD (cW (gF (iG (aO c_is_within (hr.mono (by decide)) rfl (aB (dI cK (aA 0)) (aB aF (aB (dM g_GREATEST_BACK) aH)))))) (aG (aV bQ)) bK) (aD (cW (gF (iG (aO c_are_steps (hr.mono (by decide)) rfl (aB (dI cK (aA 0)) aH)))) (aG (aV bQ)) bK) (aG (aV pX))))) ?_;rintro _ R ⟨t,rfl,e,ok,q⟩;obtain⟨b,ss,rfl⟩:=hC t e;obtain⟨⟨h1,h2,h3⟩,h4,h5⟩:=ok.2 (b,ss) Ae;refine⟨rfl,rfl,.inl ⟨rfl,_,_,_,_,rfl,rfl,λz=>?_,λ_=>?_⟩⟩
 ·simp only at h1 h2;simp [isIn,h1,h2]at z
 ·exact⟨rfl,.inr ⟨by decide+kernel,.inl ⟨rfl,ss,rfl,h4,h5,h3,nofun,λ_=>q⟩⟩⟩
def uU:aL ["self"] ["self"] (aC gA):=⟨rfl,rfl,rfl,by decide+kernel,rfl,by decide+kernel,by decide+kernel⟩
def aK7 (F:Fun K "own_fault" "Rest.own_fault" gA f fd) (cP:Cfl K N.rest ["one","by"]) (hC:∀t,cls N t=N.rest->∃a y,t= .rest a y) (c_is_within:Cal P w K mg base CX0 2 "is_within" PW3 (spV jV)) (T:Txt mg):bB P w K mg base CX0 4 f fd ["self"] (spV (rN N N.rest)):=by
 obtain⟨_,g_GREATEST_DIVISOR⟩:=T.c_GREATEST_DIVISOR;refine vfn F uU (λcdv A outer s H E hr=>(aD (cW (iG (aO c_is_within (hr.mono (by decide)) rfl (aB (dI cP (aA 0)) (aB aF (aB (dM g_GREATEST_DIVISOR) aH))))) (aG (aV pX)) bK) (aG (aV bQ)))) ?_;rintro _ R ⟨t,rfl,e,ok,q⟩;obtain⟨a,y,rfl⟩:=hC t e;have h:=ok.1;simp only [Wf]at h;refine⟨rfl,rfl,.inr ⟨by decide+kernel,.inl ⟨rfl,_,_,_,_,rfl,rfl,λ_=>q,λz=>?_⟩⟩⟩;simp [isIn,h.1,h.2.1]at z
def fFF (N:Cn) (d:Nat):Fv:=λus R=>∃t,us=[enc N t]/\ht t<=d/\lU t/\R (.sh .no)
def lZ:aL ["term","part","fault"] ["term"] (aC jQ):=⟨rfl,rfl,rfl,by decide+kernel,rfl,by decide+kernel,by decide+kernel⟩
def aW2 (F:Fun K "first_fault" "first_fault" jQ f fd) (c_first_fault:Cal P w K mg base CX0 (d+4) "first_fault" ["term"] (spV (fFF N d))) (D_inner:kW P w K mg base N 1 "inner" (iW N)) (D_own_fault:kW P w K mg base N 4 "own_fault" (rN N)):bB P w K mg base CX0 (d+5) f fd ["term"] (spV (fFF N (d+1))):=by
 refine vfn F lZ (λcdv A outer s H E hr=>(aD (eV Bd rfl (bT (cI (aA 0) D_inner (hr.mono (by omega)))) (dR (i:=1) lZ.nd) (aD (bD (i:=2) lZ.nd (aO c_first_fault (hr.mono (by omega)) rfl (aB (aA 1) aH))) (aG (cW (aJe (aA 2)) (aG (iM 2)) bK)))) (aG (aV (cI (aA 0) D_own_fault (hr.mono (by omega))))))) ?_;rintro _ R ⟨t,rfl,hd,ok,q⟩;refine⟨rfl,fX t (by decide+kernel) ⟨t,rfl,rfl,?_⟩⟩;refine cC (λl ρ=>∃(ks:List Tm) (x y:Sl),l=ks.map (enc N)/\(∀k∈ks,k∈kids t)/\ρ=[.sh (enc N t),x,y]) ?_ ?_ ⟨kids t,_,_,rfl,λ_ h=>h,rfl⟩
 ·rintro ρ ⟨ks,x,y,el,hk,rfl⟩;exact fX t (by decide+kernel) ⟨t,rfl,rfl,ok,q⟩
 ·rintro u r ρ ⟨ks,x,y,el,hk,rfl⟩ ih;obtain⟨k,ks,rfl,rfl,rfl⟩:=List.map_eq_cons_iff.mp el.symm;have kk:=hk k Ae;exact⟨k,rfl,yJ t hd k kk,ok.kid kk,nofun,λ_=>ih _ ⟨ks,_,_,rfl,λj hj=>hk j (Ad _ hj),rfl⟩⟩
def Ln (t:Tm) (n:Nat):Prop:=(n=1∨n=2∨n=3)/\(∀x∈raw t,x.2.length=n)/\∃ks:List Tk,ks.length<=6/\∀x∈raw t,x∈ks
def Ln.few (h:Ln t n):Few t:=let⟨ks,l,m⟩:=h.2.2;⟨ks,by omega,m⟩
def aAj (N:Cn) (d:Nat):Fv:=λus R=>∃t n,us=[enc N t]/\ht t<=d/\Ln t n/\∀s,s= .sh .no∨s= .sh (.n (n:Nat))->R s
abbrev aIk:List Str:=["term","counts"]
def xO:aL ["term","counts"] ["term"] (aC oZ):=⟨rfl,rfl,rfl,by decide+kernel,rfl,by decide+kernel,by decide+kernel⟩
def aG7 (F:Fun K "lines_of" "lines_of" oZ f fd) (D_takes:kW P w K mg base N (d+1) "takes" (rT N d)) (T:Txt mg):bB P w K mg base CX0 (d+3) f fd ["term"] (spV (aAj N d)):=by
 refine vfn F xO (λcdv A outer s H E hr=>(aD (bD (i:=1) xO.nd (aOm rfl T.sorted T.set (aP (mL (own:=["take"]) (cap:=[]) (aC oZ) aIk rfl rfl (λx h=>bO h) (by decide+kernel) rfl (vic (bT (cI (aA 0) D_takes (hr.mono (by omega))))) (λcl C s2 H2 fp=>(bL (i:=0) (show(["take"]:List Str).Nodup by decide+kernel) rfl (Bu rfl) (Bz rfl))) (cT (by decide)) (λcl C s2 H2 fp=>(bJ aX dO T.len Ek (aP (bU bC bV (aA 0) aF) aY)))) aY))) (aD (cW (bW tE cF (bJ aX dO T.len Ek (aP (aA 1) aY)) aF) (aG mF) bK) (aD (cW (bW (lA (huD hr)) jH (bJ aX dO T.len Ek (aP (aA 1) aY)) aF) (aG (aV pX)) bK) (aG (aV (bU bC bV (aA 1) aF))))))) ?_;rintro _ R ⟨t,n,rfl,hd,ln,q⟩;refine⟨rfl,fX t (by decide+kernel) ⟨t,rfl,rfl,hd,ln.few,λys ik=>?_⟩⟩;have yl:=yZ ln.few ik;refine⟨by rw [Ab];omega,eY (h:=λ_=> .n (n:Nat)) (λu hu k hk=>?_) ?_⟩
 ·obtain⟨y,hy,rfl⟩:=List.mem_map.mp hu;have e:=ln.2.1 y ((ik.2 y).mp hy);refine⟨_,rfl,?_⟩;show k (some (.n ((y.2.map U.n).length:Nat)));rw [Ab,e];exact hk
 ·refine⟨ys.map λ_=>n,n,by rw [Bk,Bk];rfl,λm hm=>?_,by rcases ln.1 with rfl|rfl|rfl<;>decide,?_⟩
  ·obtain⟨_,_,rfl⟩:=List.mem_map.mp hm;rfl
  ·generalize decide (0<(ys.map λ_=>n).length)=b;cases b
   ·exact⟨nofun,λ_=>⟨trivial,trivial,λ_=>q _ (.inl rfl),nofun⟩⟩
   ·exact⟨nofun,λ_=>⟨trivial,trivial,nofun,λ_=>⟨_,rfl,q _ (.inr rfl)⟩⟩⟩
def aDq (N:Cn) (d:Nat):Fv:=λus R=>∃t n,us=[enc N t]/\ht t<=d/\lU t/\dG t<=60/\Ln t n/\R (.sh .no)
def tO:aL ["term","fault"] ["term"] (aC qH):=⟨rfl,rfl,rfl,by decide+kernel,rfl,by decide+kernel,by decide+kernel⟩
def aKb (F:Fun K "check_term" "check_term" qH f fd) (d12:d<=12) (c_first_fault:Cal P w K mg base CX0 (d+4) "first_fault" ["term"] (spV (fFF N d))) (c_lines_of:Cal P w K mg base CX0 (d+3) "lines_of" ["term"] (spV (aAj N d))) (D_takes:kW P w K mg base N (d+1) "takes" (rT N d)) (D_depth:kW P w K mg base N (d+1) "depth" (aEu N ht d)) (D_parts:kW P w K mg base N (d+1) "parts" (aEu N dG d)) (T:Txt mg):bB P w K mg base CX0 (d+5) f fd ["term"] (spV (aDq N d)):=by
 obtain⟨_,g_MOST_DEPTH⟩:=T.c_MOST_DEPTH;obtain⟨_,g_MOST_PARTS⟩:=T.c_MOST_PARTS;obtain⟨_,g_MOST_TAKES⟩:=T.c_MOST_TAKES;refine vfn F tO (λcdv A outer s H E hr=>(aD (bD (i:=1) tO.nd (aO c_first_fault (hr.mono (by omega)) rfl (aB (aA 0) aH))) (aD (cW (aJe (aA 1)) (aG mF) bK) (aD (aT5 (aO c_lines_of (hr.mono (by omega)) rfl (aB (aA 0) aH))) (aD (cW (bW tE cF (cI (aA 0) D_depth (hr.mono (by omega))) (dM g_MOST_DEPTH)) (aG mF) bK) (aD (cW (bW tE cF (cI (aA 0) D_parts (hr.mono (by omega))) (dM g_MOST_PARTS)) (aG mF) bK) (aG (cW (bW tE cF (bJ aX dO T.len Ek (aP (cI (aA 0) D_takes (hr.mono (by omega))) aY)) (dM g_MOST_TAKES)) (aG mF) bK)))))))) ?_;rintro _ R ⟨t,n,rfl,hd,ok,hp,ln,q⟩;refine⟨rfl,t,rfl,hd,ok,nofun,λ_=>?_⟩;refine⟨t,n,rfl,hd,ln,λ_ _=>?_⟩;refine fX t (by decide+kernel) ⟨t,rfl,rfl,hd,by omega,λz=>?_,λ_=>?_⟩
 ·have:=of_decide_eq_true z;omega
 refine fX t (by decide+kernel) ⟨t,rfl,rfl,hd,by omega,λz=>?_,λ_=>?_⟩
 ·have:=of_decide_eq_true z;omega
 refine fX t (by decide+kernel) ⟨t,rfl,rfl,hd,ln.few,λys ik=>⟨λz=>?_,λ_=>q⟩⟩;have:=of_decide_eq_true z;obtain⟨ks,kl,km⟩:=ln.2.2;have h2:=(aCr ik.1).length_le_of_subset (l₂:=ks) λx hx=>km x ((ik.2 x).mp hx);rw [Ab]at this;omega
def aEj (N:Cn):Fv:=λus R=>∃t,us=[.s (tx (txt t))]/\ht t<=8/\lU t/\dG t<=40/\R (.sh (enc N t))
def aLw (h:bB P w K mg base CX0 k f fd ps (aB3 N)):bB P w K mg base CX0 k f fd ps (spV (aEj N)):=h.imp λvs H Q E ⟨W,B,us,R,eb,d,⟨t,eu,h1,h2,h3,hR⟩,q⟩=>by
 subst eu;obtain⟨x,r,rfl,dx,dr⟩:=d;obtain rfl:r=[]:=dr;rw [dx.1];exact⟨t,rfl,h1,h2,h3,λv' H' s tr=>q _ _ _ hR (eb.same s) (aVd (eb.to (eb.same s)) tr)⟩
def aNb (N:Cn):Fv:=λus R=>∃t n,us=[.s (tx (txt t))]/\ht t<=8/\lU t/\dG t<=40/\Ln t n/\R (.sh (enc N t))
def uQ:aL ["text","term"] ["text"] (aC rY):=⟨rfl,rfl,rfl,by decide+kernel,rfl,by decide+kernel,by decide+kernel⟩
def aO9 (F:Fun K "read_term" "read_term" rY f fd) (c_read_written:Cal P w K mg base CX0 (k+13) "read_written" ["text"] (spV (aEj N))) (c_check_term:Cal P w K mg base CX0 13 "check_term" ["term"] (spV (aDq N 8))):bB P w K mg base CX0 (k+14) f fd ["text"] (spV (aNb N)):=by
 refine vfn F uQ (λcdv A outer s H E hr=>(aD (bD (i:=1) uQ.nd (aO c_read_written (hr.mono (by omega)) rfl (aB (aA 0) aH))) (aD (aT5 (aO c_check_term (hr.mono (by omega)) rfl (aB (aA 1) aH))) (aG (iM 1))))) ?_;rintro _ R ⟨t,n,rfl,hd,ok,hp,ln,q⟩;exact⟨rfl,t,rfl,hd,ok,hp,t,n,rfl,hd,ok,by omega,ln,q⟩
def GoodR (n:Int) (m:Int) (l:List Int):Prop:=(l.length:Int)=n/\l.length<=40/\∀x∈l,0<=x/\x<m
def aNq:Fv:=λus R=>∃(l:List Int) (n m:Int),us=[.ls (l.map U.n),.n n,.n m]/\GoodR n m l/\R (.sh (.b true))
abbrev aN7:List Str:=["thing","many","modulus"]
def aKh:aL ["thing","many","modulus"] ["thing","many","modulus"] (aC uZ):=⟨rfl,rfl,rfl,by decide+kernel,rfl,by decide+kernel,by decide+kernel⟩
def aMq (F:Fun K "is_row" "is_row" uZ f fd) (c_is_within:Cal P w K mg base CX0 2 "is_within" PW3 (spV jV)) (T:Txt mg):bB P w K mg base CX0 3 f fd ["thing","many","modulus"] (spV aNq):=by
 refine vfn F aKh (λcdv A outer s H E hr=>(aD (cW (tR (xH (gF (iG (rK .ls nofun T.isinstance T.list Ja (aA 0)))) (qU (bW (wX (huD hr)) jH (bJ aX dO T.len Ek (aP (aA 0) aY)) (aA 1))))) (aG (aV tG)) bK) (aG (aV (bJ zV (aHn rfl) T.all boot_all (aP (mL (own:=["worth"]) (cap:=[("modulus",2)]) (aC uZ) aN7 rfl rfl (λx h=>bO h) (by decide+kernel) rfl (vic (bT (aA 0))) (λcl C s2 H2 fp=>(bL (i:=0) (show(["worth","modulus"]:List Str).Nodup by decide+kernel) rfl (Bu rfl) (Bz rfl))) (cT (by decide)) (λcl C s2 H2 fp=>(aO c_is_within (hr.mono (by decide)) rfl (aB (aA 0) (aB aF (aB (aU iC cF (aA 1) aF) aH)))))) aY)))))) ?_;rintro _ R ⟨l,n,m,rfl,⟨h1,h2,h3⟩,q⟩;refine⟨rfl,_,rfl,nofun,λ_=>⟨trivial,trivial,λz=>?_,λ_=>?_⟩⟩
 ·simp [U.eq,U.d,D.eq,eqV,Sl.rd,h1]at z
 ·refine⟨by rw [Ab];omega,eY (h:=λ_=> .b true) (λu hu k hk=>?_) ⟨l.map λ_=>true,by rw [Bk,Bk];rfl,Rbl q (by simp)⟩⟩;obtain⟨x,hx,rfl⟩:=List.mem_map.mp hu;have:=h3 x hx;refine⟨_,_,_,_,rfl,rfl,?_⟩;show k (some (.b (isIn (.n x) 0 (m-1))));rw [show isIn (.n x) 0 (m-1)=true by simp [isIn,this.1];omega];exact hk
def jC (ls:List (List Int)):List U:=ls.map λl=> .ls (l.map U.n)
def aEq:Fv:=λus R=>∃(ls:List (List Int)) (k n m:Int),us=[.ls (jC ls),.n k,.n n,.n m]/\(ls.length:Int)=k/\ls.length<=3/\(∀l∈ls,GoodR n m l)/\R (.sh (.b true))
abbrev aG0:List Str:=["thing","deep","many","modulus"]
def aEo:aL ["thing","deep","many","modulus"] ["thing","deep","many","modulus"] (aC pQ):=⟨rfl,rfl,rfl,by decide+kernel,rfl,by decide+kernel,by decide+kernel⟩
def aGw (F:Fun K "are_rows" "are_rows" pQ f fd) (c_is_row:Cal P w K mg base CX0 3 "is_row" ["thing","many","modulus"] (spV aNq)) (T:Txt mg):bB P w K mg base CX0 4 f fd ["thing","deep","many","modulus"] (spV aEq):=by
 refine vfn F aEo (λcdv A outer s H E hr=>(aD (cW (tR (xH (gF (iG (rK .ls nofun T.isinstance T.list Ja (aA 0)))) (qU (bW (wX (huD hr)) jH (bJ aX dO T.len Ek (aP (aA 0) aY)) (aA 1))))) (aG (aV tG)) bK) (aG (aV (bJ zV (aHn rfl) T.all boot_all (aP (mL (own:=["row"]) (cap:=[("many",2),("modulus",3)]) (aC pQ) aG0 rfl rfl (λx h=>bO h) (by decide+kernel) rfl (vic (bT (aA 0))) (λcl C s2 H2 fp=>(bL (i:=0) (show(["row","many","modulus"]:List Str).Nodup by decide+kernel) rfl (Bu rfl) (Bz rfl))) (cT (by decide)) (λcl C s2 H2 fp=>(aO c_is_row (hr.mono (by decide)) rfl (aB (aA 0) (aB (aA 1) (aB (aA 2) aH)))))) aY)))))) ?_;rintro _ R ⟨ls,k,n,m,rfl,h1,h2,h3,q⟩;have e1:(jC ls).length=ls.length:=Ab ..;refine⟨rfl,_,rfl,nofun,λ_=>⟨trivial,trivial,λz=>?_,λ_=>?_⟩⟩
 ·simp [U.eq,U.d,D.eq,eqV,Sl.rd,h1,e1]at z
 ·refine⟨by omega,eY (h:=λ_=> .b true) (λu hu k hk=>?_) ⟨ls.map λ_=>true,by unfold jC;rw [Bk,Bk];rfl,Rbl q (by simp)⟩⟩;obtain⟨x,hx,rfl⟩:=List.mem_map.mp hu;exact⟨x,n,m,rfl,h3 x hx,hk⟩
def dpt (ys:List Tk):Int:=if ys=[]then 1 else ys.foldl (λm y=>max m y.1) 0
def aMh {m:Int} (hp:∀y∈ys,0<=y.1) (hm:m∈ys.map (·.1)) (ha:∀a∈ys.map (·.1),a<=m):dpt ys=m:=by
 have key:∀(l:List Tk) (a:Int),(∀y∈l,y.1<=m)->a<=m->l.foldl (λm y=>max m y.1) a<=m/\a<=l.foldl (λm y=>max m y.1) a/\∀y∈l,y.1<=l.foldl (λm y=>max m y.1) a:=by
  intro l;induction l with
  |nil=>exactλa _ h=>⟨h,Mg _,λ_ z=>nomatch z⟩
  |cons x l ih=>
   intro a h1 h2;have hx:=h1 x Ae;obtain⟨g1,g2,g3⟩:=ih (max a x.1) (λy hy=>h1 y (Ad _ hy)) (by omega);refine⟨g1,by rw [Fm];omega,λy hy=>?_⟩;rw [Fm];rcases List.mem_cons.mp hy with rfl|hy
   ·omega
   ·exact g3 y hy
 obtain⟨y,hy,rfl⟩:=List.mem_map.mp hm;have h0:=hp y hy;obtain⟨g1,g2,g3⟩:=key ys 0 (λz hz=>ha _ (List.mem_map.mpr ⟨z,hz,rfl⟩)) h0;unfold dpt;rw [if_neg (by intro z;rw [z]at hy;cases hy)];have:=g3 y hy;omega
def aTa (C:Addr):Fv:=λus R=>∃(ys:List Tk) (ns:List Str) (ws:List U),us=[.ob C ("taken"::ns) (.ls (ys.map tkU)::ws)]/\ys.length<=17/\(∀y∈ys,0<=y.1)/\R (.sh (.n (dpt ys)))
abbrev aH0:List Str:=["self"]
def aGh:aL ["self"] ["self"] (aC pJ):=⟨rfl,rfl,rfl,by decide+kernel,rfl,by decide+kernel,by decide+kernel⟩
def aR0 (F:Fun K "deep" "Job.deep" pJ f fd) (cJ:Cfl K C ["taken"]) (T:Txt mg):bB P w K mg base CX0 1 f fd ["self"] (spV (aTa C)):=by
 refine vfn F aGh (λcdv A outer s H E hr=>(aG (aV (aI6 rfl T.max (aP (mL (own:=["take"]) (cap:=[]) (aC pJ) aH0 rfl rfl (λx h=>bO h) (by decide+kernel) rfl (vic (bT (dI cJ (aA 0)))) (λcl C s2 H2 fp=>(bL (i:=0) (show(["take"]:List Str).Nodup by decide+kernel) rfl (Bu rfl) (Bz rfl))) (cT (by decide)) (λcl C s2 H2 fp=>(bU bC bV (aA 0) aF))) aY) aF)))) ?_;rintro _ R ⟨ys,ns,ws,rfl,yl,hp,q⟩;have e:(ys.map tkU).map (λu=>match u with| .tp (x::_)=>x|u=>u)=(ys.map (·.1)).map U.n:=by rw [Bk,Bk];rfl
 refine⟨rfl,rfl,.inl ⟨rfl,by rw [Ab];omega,eY (h:=λu=>match u with| .tp (x::_)=>x|u=>u) (λu hu k hk=>?_) ?_⟩⟩
 ·obtain⟨y,hy,rfl⟩:=List.mem_map.mp hu;exact⟨_,rfl,hk⟩
 ·rw [Dy,e];refine⟨_,rfl,λz=>?_,λm hm ha=>?_⟩
  ·have z:=List.map_eq_nil_iff.mp z;subst z;exact q
  ·rw [aMh hp hm ha]at q;exact q
inductive aI5 (us:List U) (R:(List Str->List U->Prop)):Prop
 |mk (ns:List Int) (rs:List Rim) (q0_:us=[.ls (ns.map U.n),.ls (rs.map Rim.u)]) (q1_:lJ ns) (q2_:rs.length=ns.length) (q3_:(∀r∈rs,r.ok)) (q4_:R ["sizes","rims"] [.ls (ns.map U.n),.ls (rs.map Rim.u)]):aI5 us R
def aGz:List U->(List Str->List U->Prop)->Prop:=λus R=>aI5 us R
def vI (ns:List Int):U.dts 5 (ns.map U.n):=by
 induction ns with
 |nil=>trivial
 |cons r rs ih=>exact⟨trivial,ih⟩
def aIs (rs:List Rim):U.dts 5 (rs.map Rim.u):=by
 induction rs with
 |nil=>trivial
 |cons r rs ih=>exact⟨by cases r<;>first|exact⟨trivial,trivial⟩|exact⟨trivial,trivial,trivial⟩,ih⟩
def wI:aL ["self","sizes","rims"] ["self","sizes","rims"] (aC lC):=⟨rfl,rfl,rfl,by decide+kernel,rfl,by decide+kernel,by decide+kernel⟩
def aOe (F:Fun K "__init__" "Grid.__init__" lC f fd) (cG:Cfl K C ["sizes","rims"]) (c_check_lines:Cal P w K mg base CX0 4 "check_lines" ["sizes","rims"] (spV aN3)) (c_product:Cal P w K mg base CX0 1 "product" ["sizes"] (spV aNw)) (T:Txt mg):bB P w K mg base CX0 5 f fd ["self","sizes","rims"] (spI C aGz):=by
 obtain⟨_,g_MOST_PLACES⟩:=T.c_MOST_PLACES;refine F.ok wI (λvs H Q E h=>?_) (λcdv A outer s H vs Q E hr h=>?_)
 ·obtain⟨x,dx,vs',H1,W,B,us,R,rfl,_,_,_,_,ds,⟨ns,rs,rfl,_⟩,_⟩:=h;rw [Ah, <-ds.length];rfl
 ·obtain⟨x,dx,vs',H1,W,B,us,R,rfl,n1,hx,s1,eb,ds,⟨ns,rs,rfl,g,el,rk,hR⟩,q⟩:=h;obtain⟨v1,_,rfl,d1,v2,r,rfl,d2,dr⟩:=ds;obtain rfl:r=[]:=dr;have ee:∀{H'},Fw W H1 H'->EE W B H' [.no,.sh (.ls (ns.map U.n)),.sh (.ls (rs.map Rim.u))] [some (.ref x),some v1,some v2]:=λfw=>qG (mX (DU.mono (eb.keep fw) _ d1) (mX (DU.mono (eb.keep fw) _ d2) (aPa (eb.to fw))));have nw:¬W x:=λz=>eb.dm x (eb.wb x z) n1;have nB:¬B x:=eb.nw n1;refine⟨_,(aK (cV (VE.can (aO c_check_lines (hr.mono (by decide)) rfl (aB (aA 1) (aB (aA 2) aH))))) (aK (fD (VC.can (bW tE cF (aO c_product (hr.mono (by decide)) rfl (aB (aA 1) aH)) (dM g_MOST_PLACES))) (aR dY) bZ) (aK (dF (pv 0) (VE.can (dU (mD rfl) vL T.list Ja (aP (aA 1) aY))) rfl) (aR (dF (pv 0) (VE.can (dU (mD rfl) vL T.list Ja (aP (aA 2) aY))) rfl))))),?_⟩;have f0:=eb.same s1;refine aBp (R:=λ_=>True) (ee f0) ⟨ns,rs,rfl,g.ok,g.l1,g.l3,el,rk,trivial⟩ λs v H2 _ w2 _=>?_;have f2:=f0.trans w2;refine aAz (R:=λc=>c=false) (ee f2) ⟨ns,rfl,g.ok,g.l3,decide_eq_false (by have:=g.mn;omega)⟩ λc H3 hc w3=>?_;subst hc;refine qP ?_;have f3:=f2.trans w3;have hx3:H3 x=some (.ins C dx []):=w3.fr _ _ nw (w2.fr _ _ nw hx);refine aBp (R:=λs=>s= .ow (ns.map U.n)) (ee f3) rfl λs v4 H4 hs w4 r4=>?_;subst hs;obtain⟨p4,x4,rfl,n4,h4,d4⟩:=r4;have f4:=f3.trans w4;have hx4:=w4.fr _ _ nw hx3;refine⟨_,rfl,x,C,dx,_,rfl,hx4,cG.cl,cG.na _ (by simp),by decide,?_⟩;have f5:=f4.upd (o:= .ins C dx (jX "sizes" (.ref p4) [])) n1 nw;have hx5:upd H4 x (.ins C dx (jX "sizes" (.ref p4) [])) x=_:=aJ;have h5:=fJ (B:=B) (o:= .ins C dx (jX "sizes" (.ref p4) [])) hx4 p4 _ (λz=>(eb.to f3).dm p4 z n4) h4 (.inr ⟨_,rfl⟩);have d5:=DUs.data (fJ (o:= .ins C dx (jX "sizes" (.ref p4) [])) hx4) 5 _ (vI ns) d4.less;revert f5 hx5 h5 d5;generalize upd H4 x (.ins C dx (jX "sizes" (.ref p4) []))=H5;intro f5 hx5 h5 d5;refine aBp (R:=λs=>s= .ow (rs.map Rim.u)) (ee f5) rfl λs v6 H6 hs w6 r6=>?_;subst hs;obtain⟨p6,x6,rfl,n6,h6,d6⟩:=r6;have hx6:=w6.fr _ _ nw hx5;refine⟨_,rfl,x,C,dx,_,rfl,hx6,cG.cl,cG.na _ (by simp),by show(1:Nat)<1000;decide,?_⟩;have e6:=eb.to (f5.trans w6);refine q ["sizes","rims"] _ [.ref p4,.ref p6] _ hR ((f5.trans w6).upd n1 nw) aJ rfl ⟨_,_,rfl,⟨p4,x4,rfl,(eb.to f3).nw n4,?_,?_⟩,_,_,rfl,⟨p6,x6,rfl,(eb.to f5).nw n6,?_,?_⟩,rfl⟩
  ·exact fJ (B:=B) hx6 p4 _ ((eb.to f3).nw n4) (w6.fr _ _ (λz=>(eb.to f3).nw n4 (eb.wb _ z)) h5) (.inr ⟨_,rfl⟩)
  ·exact DUs.data (fJ hx6) 5 _ (vI ns) (DUs.mono ((eb.to f5).keep w6) _ d5)
  ·exact fJ (B:=B) hx6 p6 _ ((eb.to f5).nw n6) h6 (.inr ⟨_,rfl⟩)
  ·exact DUs.data (fJ hx6) 5 _ (aIs rs) d6.less
def aEb (N:Cn) (CG CJ:Addr) (ns:List Int) (rs:List Rim) (t:Tm) (ys:List Tk) (m r:Int) (ls:List (List Int)):U:= .ob CJ ["taken","grid","term","modulus","rounds","first"] [.ls (ys.map tkU),grU CG ns rs,enc N t,.n m,.n r,.ls (jC ls)]
structure aSt (ns:List Int) (rs:List Rim) (t:Tm) (m r:Int) (ls:List (List Int)):Prop where
 gs:lJ ns
 el:rs.length=ns.length
 rk:∀x∈rs,x.ok
 hd:ht t<=8
 ok:lU t
 pr:dG t<=60
 ln:Ln t ns.length
 m2:2<=m/\m<=1000000000
 r0:0<=r/\r<=12
 rm:r*qR ns<=120
 dp:∀ys,qT t ys->(ls.length:Int)=dpt ys
 l3:ls.length<=3
 rw_:∀l∈ls,GoodR (qR ns) m l
inductive aI9 (N:Cn) (CG:Addr) (us:List U) (R:(List Str->List U->Prop)):Prop
 |mk (ns:List Int) (rs:List Rim) (t:Tm) (m r:Int) (ls:List (List Int)) (q0_:us=[grU CG ns rs,enc N t,.n m,.n r,.ls (jC ls)]) (q1_:aSt ns rs t m r ls) (q2_:∀ys,qT t ys->R ["taken","grid","term","modulus","rounds","first"] [.ls (ys.map tkU),grU CG ns rs,enc N t,.n m,.n r,.ls (jC ls)]):aI9 N CG us R
def aHs (N:Cn) (CG:Addr):List U->(List Str->List U->Prop)->Prop:=λus R=>aI9 N CG us R
def aJi (ls:List (List Int)):U.dts 6 (jC ls):=by
 induction ls with
 |nil=>trivial
 |cons l ls ih=>exact⟨vI l,ih⟩
def aH7 (ys:List Tk):U.dts 7 (ys.map tkU):=by
 induction ys with
 |nil=>trivial
 |cons y ys ih=>exact⟨⟨trivial,vI y.2,trivial⟩,ih⟩
def aZx (i j:Int):U.eq (.n i) (.n j)=(i==j):=rfl
abbrev aA4:List Str:=["self","grid","term","modulus","rounds","first"]
def yC:aL ["self","grid","term","modulus","rounds","first"] ["self","grid","term","modulus","rounds","first"] (aC iY):=⟨rfl,rfl,rfl,by decide+kernel,rfl,by decide+kernel,by decide+kernel⟩
def aL3 {CG CJ:Addr} (F:Fun K "__init__" "Job.__init__" iY f fd) (cJ:Cfl K CJ ["taken","grid","term","modulus","rounds","first"]) (c_check_term:Cal P w K mg base CX0 13 "check_term" ["term"] (spV (aDq N 8))) (c_lines_of:Cal P w K mg base CX0 11 "lines_of" ["term"] (spV (aAj N 8)))
  (c_is_within:Cal P w K mg base CX0 2 "is_within" PW3 (spV jV)) (c_are_rows:Cal P w K mg base CX0 4 "are_rows" ["thing","deep","many","modulus"] (spV aEq)) (D_takes:kW P w K mg base N 9 "takes" (rT N 8)) (D_lines:Dis P w K mg base CX0 1 (·=CG) "lines" ["self"] λ_=>spV (aPq CG)) (D_places_many:Dis P w K mg base CX0 2 (·=CG) "places_many" ["self"] λ_=>spV (aTv CG)) (D_deep:Dis P w K mg base CX0 1 (·=CJ) "deep" ["self"] λ_=>spV (aTa CJ)) (T:Txt mg):bB P w K mg base CX0 14 f fd ["self","grid","term","modulus","rounds","first"] (spI CJ (aHs N CG)):=by
 obtain⟨_,g_GREATEST_MODULUS⟩:=T.c_GREATEST_MODULUS;obtain⟨_,g_MOST_ROUNDS⟩:=T.c_MOST_ROUNDS;obtain⟨_,g_MOST_SPOTS⟩:=T.c_MOST_SPOTS;refine F.ok yC (λvs H Q E h=>?_) (λcdv A outer s H vs Q E hr h=>?_)
 ·obtain⟨x,dx,vs',H1,W,B,us,R,rfl,_,_,_,_,ds,⟨ns,rs,t,m,r,ls,rfl,_⟩,_⟩:=h;rw [Ah, <-ds.length];rfl
 ·obtain⟨x,dx,vs',H1,W,B,us,R,rfl,n1,hx,s1,eb,ds,⟨ns,rs,t,m,r,ls,rfl,g,hR⟩,q⟩:=h;obtain⟨v1,_,rfl,d1,v2,_,rfl,d2,v3,_,rfl,d3,v4,_,rfl,d4,v5,r5,rfl,d5,dr⟩:=ds;obtain rfl:r5=[]:=dr;have ee:∀{H' s0},Fw W H1 H'->EE W B H' [s0,.sh (grU CG ns rs),.sh (enc N t),.sh (.n m),.sh (.n r),.sh (.ls (jC ls))] [some (.ref x),some v1,some v2,some v3,some v4,some v5]->EE W B H' [s0,.sh (grU CG ns rs),.sh (enc N t),.sh (.n m),.sh (.n r),.sh (.ls (jC ls))] [some (.ref x),some v1,some v2,some v3,some v4,some v5]:=λ_ e=>e;have et:∀{H'},Fw W H1 H'->EE W B H' [.sh (grU CG ns rs),.sh (enc N t),.sh (.n m),.sh (.n r),.sh (.ls (jC ls))] [some v1,some v2,some v3,some v4,some v5]:=λfw=>mX (DU.mono (eb.keep fw) _ d1) (mX (DU.mono (eb.keep fw) _ d2) (mX d3 (mX d4 (mX (DU.mono (eb.keep fw) _ d5) (aPa (eb.to fw))))));have nw:¬W x:=λz=>eb.dm x (eb.wb x z) n1;refine⟨_,(aK (cV (VE.can (aO c_check_term (hr.mono (by decide)) rfl (aB (aA 2) aH)))) (aK (fD (VC.can (bW (wK (huD hr)) aE0 (aO c_lines_of (hr.mono (by decide)) rfl (aB (aA 2) aH)) (cY (aB pX (aB (cI (aA 1) D_lines (hr.mono (by decide))) aH))))) (aR dY) bZ) (aK (fD (VC.can (gF (iG (aO c_is_within (hr.mono (by decide)) rfl (aB (aA 3) (aB aF (aB (dM g_GREATEST_MODULUS) aH))))))) (aR dY) bZ) (aK (fD (VC.can (tR (xH (gF (iG (aO c_is_within (hr.mono (by decide)) rfl (aB (aA 4) (aB aF (aB (dM g_MOST_ROUNDS) aH)))))) (qU (bW tE cF (aU lE jK (aA 4) (cI (aA 1) D_places_many (hr.mono (by decide)))) (dM g_MOST_SPOTS)))))) (aR dY) bZ) (aK (dF (pv 0) (VE.can (cI (aA 2) D_takes (hr.mono (by decide)))) rfl) (aK (fD (VC.can (gF (iG (aO c_are_rows (hr.mono (by decide)) rfl (aB (aA 5) (aB (cI (aA 0) D_deep (hr.mono (by decide))) (aB (cI (aA 1) D_places_many (hr.mono (by decide))) (aB (aA 3) aH)))))))) (aR dY) bZ) (aK (dF (pv 0) (pv 1) rfl) (aK (dF (pv 0) (pv 2) rfl) (aK (dF (pv 0) (pv 3) rfl) (aK (dF (pv 0) (pv 4) rfl) (aR (dF (pv 0) (VE.can (mL (own:=["row"]) (cap:=[]) (aC iY) aA4 rfl rfl (λx h=>bO h) (by decide+kernel) rfl (vic (bT (aA 5))) (λcl C s2 H2 fp=>(bL (i:=0) (show(["row"]:List Str).Nodup by decide+kernel) rfl (Bu rfl) (Bz rfl))) (cT (by decide)) (λcl C s2 H2 fp=>(dU (mD rfl) vL T.list Ja (aP (aA 0) aY))))) rfl)))))))))))),?_⟩;have f0:=eb.same s1;refine aBp (R:=λ_=>True) (qG (et f0)) ⟨t,_,rfl,g.hd,g.ok,g.pr,g.ln,trivial⟩ λs v H2 _ w2 _=>?_;have f2:=f0.trans w2;refine aAz (R:=λc=>c=false) (qG (et f2)) ⟨t,_,rfl,g.hd,g.ln,λs hs=>?_⟩ λc H3 hc w3=>?_
  ·rcases hs with rfl|rfl
   ·exact⟨rfl,rfl,ns,rs,rfl,trivial,⟨trivial,trivial,trivial⟩,rfl⟩
   ·refine⟨rfl,rfl,ns,rs,rfl,trivial,⟨trivial,trivial,trivial⟩,?_⟩;simp [aZx,Sl.rd]
  subst hc;refine qP ?_;have f3:=f2.trans w3;refine aAz (R:=λc=>c=false) (qG (et f3)) ⟨_,_,_,_,rfl,rfl,?_⟩ λc H4 hc w4=>?_
  ·show(!isIn (.n m) 2 1000000000)=false;simp [isIn,g.m2.1,g.m2.2]
  subst hc;refine qP ?_;have f4:=f3.trans w4;refine aAz (R:=λc=>c=false) (qG (et f4)) ⟨_,_,_,_,rfl,rfl,λz=>?_,λ_=>⟨rfl,rfl,ns,rs,rfl,g.gs,?_⟩⟩ λc H5 hc w5=>?_
  ·simp [isIn,g.r0.1,g.r0.2]at z
  ·refine⟨.inl ⟨by have:=g.r0;omega,by have:=g.r0;omega⟩,?_⟩;exact decide_eq_false (by have:=g.rm;omega)
  subst hc;refine qP ?_;have f5:=f4.trans w5;have hx5:H5 x=some (.ins CJ dx []):=w5.fr _ _ nw (w4.fr _ _ nw (w3.fr _ _ nw (w2.fr _ _ nw hx)));refine aBp (R:=λs=>∃ys,qT t ys/\s= .ow (ys.map tkU)) (qG (et f5)) (fX t (by decide+kernel) ⟨t,rfl,rfl,g.hd,g.ln.few,λys hy=>⟨ys,hy,rfl⟩⟩) λs v6 H6 hs w6 r6=>?_;obtain⟨ys,hy,rfl⟩:=hs;obtain⟨p6,x6,rfl,n6,h6,d6⟩:=r6;have f6:=f5.trans w6;have hx6:=w6.fr _ _ nw hx5;have nB6:¬B p6:=(eb.to f5).nw n6;refine⟨_,rfl,x,CJ,dx,_,rfl,hx6,cJ.cl,cJ.na _ (by simp),by decide,?_⟩;have f7:=f6.upd (o:= .ins CJ dx (jX "taken" (.ref p6) [])) n1 nw;have hx7:upd H6 x (.ins CJ dx (jX "taken" (.ref p6) [])) x=_:=aJ;have h7:=fJ (B:=B) (o:= .ins CJ dx (jX "taken" (.ref p6) [])) hx6 p6 _ nB6 h6 (.inr ⟨_,rfl⟩);have d7:=DUs.data (fJ (o:= .ins CJ dx (jX "taken" (.ref p6) [])) hx6) 7 _ (aH7 ys) d6.less;revert f7 hx7 h7 d7;generalize upd H6 x (.ins CJ dx (jX "taken" (.ref p6) []))=H7;intro f7 hx7 h7 d7;have yl:=yZ g.ln.few hy;have yp:∀y∈ys,0<=y.1:=λy h=>by have:=(g.ok.2 y ((hy.2 y).mp h)).1.1;omega
  have dJ:DU W B H7 (.ob CJ ["taken"] [.ls (ys.map tkU)]) (.ref x):=⟨x,dx,[.ref p6],rfl,eb.nw n1,hx7,rfl,_,_,rfl,⟨p6,x6,rfl,nB6,h7,d7⟩,rfl⟩;refine aAz (R:=λc=>c=false) (mX dJ (et f7)) ⟨rfl,rfl,ys,[],[],rfl,yl,yp,rfl,rfl,ns,rs,rfl,g.gs,ls,_,_,_,rfl,g.dp ys hy,g.l3,g.rw_,rfl⟩ λc H8 hc w8=>?_;subst hc;refine qP ?_;have step:∀{H fs fs'},(Fw W H1 H/\H x=some (.ins CJ dx fs)/\DU W B H (.ls (ys.map tkU)) (.ref p6))->(Fw W H1 (upd H x (.ins CJ dx fs'))/\upd H x (.ins CJ dx fs') x=some (.ins CJ dx fs')/\DU W B (upd H x (.ins CJ dx fs')) (.ls (ys.map tkU)) (.ref p6)):=λ⟨a,b,c⟩=>⟨a.upd n1 nw,aJ,DU.data (fJ b) 8 _ (aH7 ys) c⟩;have k8:Fw W H1 H8/\H8 x=some (.ins CJ dx [("taken",.ref p6)])/\DU W B H8 (.ls (ys.map tkU)) (.ref p6):=⟨f7.trans w8,w8.fr _ _ nw hx7,DU.mono ((eb.to f7).keep w8) _ ⟨p6,x6,rfl,nB6,h7,d7⟩⟩;have fl:∀{k:Nat},k<=6->k<1000:=λh=>by omega
  refine⟨_,rfl,_,rfl,x,CJ,dx,_,rfl,k8.2.1,cJ.cl,cJ.na _ (by simp),fl (by show(1:Nat)<=6;decide),?_⟩;have k9:=step (fs':=[("taken",.ref p6),("grid",v1)]) k8;refine⟨_,rfl,_,rfl,x,CJ,dx,_,rfl,k9.2.1,cJ.cl,cJ.na _ (by simp),fl (by show(2:Nat)<=6;decide),?_⟩;have k10:=step (fs':=[("taken",.ref p6),("grid",v1),("term",v2)]) k9;refine⟨_,rfl,_,rfl,x,CJ,dx,_,rfl,k10.2.1,cJ.cl,cJ.na _ (by simp),fl (by show(3:Nat)<=6;decide),?_⟩;have k11:=step (fs':=[("taken",.ref p6),("grid",v1),("term",v2),("modulus",v3)]) k10;refine⟨_,rfl,_,rfl,x,CJ,dx,_,rfl,k11.2.1,cJ.cl,cJ.na _ (by simp),fl (by show(4:Nat)<=6;decide),?_⟩;have k12:=step (fs':=[("taken",.ref p6),("grid",v1),("term",v2),("modulus",v3),("rounds",v4)]) k11;refine aBp (R:=λs=>s= .ow (jC ls)) (qG (et k12.1)) ⟨by have:=g.l3;show(jC ls).length<=_;unfold jC;rw [Ab];omega,eY (h:=id) (λu hu k hk=>?_) (by rw [Dy,Ve])⟩ λs v13 H13 hs w13 r13=>?_
  ·obtain⟨l,_,rfl⟩:=List.mem_map.mp hu;exact hk
  subst hs;obtain⟨p13,x13,rfl,n13,h13,d13⟩:=r13;have f13:=k12.1.trans w13;have nB13:¬B p13:=(eb.to k12.1).nw n13;have k13:Fw W H1 H13/\H13 x=some (.ins CJ dx [("taken",.ref p6),("grid",v1),("term",v2),("modulus",v3),("rounds",v4)])/\DU W B H13 (.ls (ys.map tkU)) (.ref p6):=⟨f13,w13.fr _ _ nw k12.2.1,DU.mono ((eb.to k12.1).keep w13) _ k12.2.2⟩;refine⟨_,rfl,x,CJ,dx,_,rfl,k13.2.1,cJ.cl,cJ.na _ (by simp),fl (by show(5:Nat)<=6;decide),?_⟩;have k14:=step (fs':=[("taken",.ref p6),("grid",v1),("term",v2),("modulus",v3),("rounds",v4),("first",.ref p13)]) k13;have fin:=λu {v:V} (d:DU W B H1 u v)=>DU.mono (eb.keep k14.1) u d;exact q _ _ [.ref p6,v1,v2,v3,v4,.ref p13] _ (hR ys hy) k14.1 aJ rfl ⟨_,_,rfl,k14.2.2,_,_,rfl,fin _ d1,_,_,rfl,fin _ d2,_,_,rfl,fin _ d3,_,_,rfl,fin _ d4,_,_,rfl,⟨p13,x13,rfl,nB13,fJ (B:=B) k13.2.1 p13 _ nB13 h13 (.inr ⟨_,rfl⟩),DUs.data (fJ k13.2.1) 6 _ (aJi ls) d13.less⟩,rfl⟩
def aDr (K:Ac) (ns:List Int):Opq where
 φ:=λ_ B H v=>∃a,v= .ref a/\((¬B a/\Rd H a (.lst (ns.map V.int)))∨∀H',SqL K H' a (ns.map V.int))
 mono:=λk ⟨a,e,h⟩=>by
  rcases h with ⟨nb,h|⟨o,h⟩⟩|h
  ·exact⟨a,e,.inl ⟨(k _ _ nb h).1,.inl (k _ _ nb h).2⟩⟩
  ·exact⟨a,e,.inl ⟨(k _ _ nb h).1,.inr ⟨o,(k _ _ nb h).2⟩⟩⟩
  ·exact⟨a,e,.inr h⟩
 wm:=λ_ h=>h
def aS2 (K:Ac):Fv:=λus R=>∃(ns:List Int) (k:Nat),us=[.op (aDr K ns),.n (k:Int)]/\∀n:Int,R (.sh (.n n))
def aX7 (x:Int): -(2 ^ 64)<x % 2147483647/\x % 2147483647<2 ^ 64:=by omega
def DUs.two {W B:Addr->Prop} {u v:U} {vs:List V} (h:DUs W B H [u,v] vs):∃x y,vs=[x,y]/\DU W B H u x/\DU W B H v y:=by
 obtain⟨x,_,rfl,d1,y,r,rfl,d2,e⟩:=h;obtain rfl:r=[]:=e;exact⟨x,y,rfl,d1,d2⟩
def aDv:aL ["_law_script","_law_k"] ["_law_script","_law_k"] (aC rZ):=⟨rfl,rfl,rfl,by decide+kernel,rfl,by decide+kernel,by decide+kernel⟩
def aSe (F:Fun K "_law_cell" "_law_cell" rZ f fd) (T:Txt mg):bB P w K mg base CX0 1 f fd ["_law_script","_law_k"] (spV (aS2 K)):=by
 refine F.ok aDv (λvs H Q E h=>?_) (λcdv A outer s H vs Q E hr h=>?_)
 ·obtain⟨W,B,us,R,eb,ds,⟨ns,k,rfl,_⟩,_⟩:=h;rw [<-ds.length];rfl
 ·obtain⟨W,B,us,R,eb,ds,⟨ns,k,rfl,hR⟩,q⟩:=h;obtain⟨x,y,rfl,⟨a,rfl,hs⟩,⟨rfl,_⟩⟩:=DUs.two ds;have hS:SqL K H a (ns.map V.int):=hs.elim (λh=> .inl h.2) λh=>h H;have q':∀n:Int,Q (.int n) H:=λn=>q _ _ _ (hR n) eb.refl ⟨rfl,rfl⟩;refine⟨_,(aK (fD (cM vW (pv 1) (gR aX (by rfl) T.len Md (aN (pv 0) aZ)) (dC _)) (aR (cQ (xU nA (pv 0) (pv 1) (λ_ _=>rfl)))) bZ) (aR (cQ dX))),?_⟩;refine⟨_,rfl,_,rfl,a,_,rfl,.inl hS,_,_,rfl,rfl,_,rfl,?_⟩;by_cases h:k<ns.length
  ·refine lG (decide_eq_true (by rw [Ab];omega)) ?_;exact⟨_,rfl,_,rfl,a,_,_,_,rfl,rfl,hS,sO (show(ns.map V.int)[k]? =some (.int ns[k]) by rw [Az,Ak h];rfl),q' _⟩
  ·exact fO (decide_eq_false (by rw [Ab];omega)) (q' 0)
def aBw:Fv:=λus R=>∃m:Int,us=[.wl,.n m]/\0<m/\m<2 ^ 62/\∀r:Int,0<=r->r<m->R (.sh (.n r))
def aQ5:Fv:=λus R=>∃(c:Int) (k:Int),us=[.n c,.n k]/\∀r:Int,R (.sh (.n r))
def vM:aL ["_law_well_here","_law_most","_law_number"] ["_law_well_here","_law_most"] (aC qY):=⟨rfl,rfl,rfl,by decide+kernel,rfl,by decide+kernel,by decide+kernel⟩
def aQq (F:Fun K "_law_draw" "_law_draw" qY f fd) (c_twice:Cal P w K mg base CX0 2 "_law_twice" ["_law_cell_here","_law_k"] (spV aQ5)):bB P w K mg base CX0 3 f fd ["_law_well_here","_law_most"] (spV aBw):=by
 refine F.ok vM (λvs H Q E h=>?_) (λcdv A outer s H vs Q E hr h=>?_)
 ·obtain⟨W,B,us,R,eb,ds,⟨m,rfl,_⟩,_⟩:=h;rw [<-ds.length];rfl
 ·obtain⟨W,B,us,R,eb,ds,⟨m,rfl,hm,hm2,hR⟩,q⟩:=h;obtain⟨v1,v2,rfl,⟨a,rfl,wa⟩,⟨rfl,_⟩⟩:=DUs.two ds;obtain⟨x,y,z,ha⟩:=eb.wo a wa;have up:∀{H':Hp} (x y z:Int),Fw W H H'->Fw W H (upd H' a (.lst [.int x,.int y,.int z])):=λ{H'} x y z f=>⟨λb o nw h=>(aM (λe:b=a=>nw (by rw [e];exact wa))).trans (f.fr b o nw h),λp hp=>by
   by_cases e:p=a
   ·exact⟨x,y,z,by rw [e,aJ]⟩
   ·obtain⟨x',y',z',h⟩:=f.wo p hp;exact⟨x',y',z',(aM e).trans h⟩⟩
  have fin:∀(t:Int) (H':Hp),Fw W H H'->Q (.int (t % m)) H':=λt H' fw=>q _ _ _ (hR (t % m) (Gm t (by omega)) (Ff t hm)) fw ⟨rfl,rfl⟩;refine⟨_,(aK (fD (cM tE (xU nA (pv 0) dX (λ_ _=>rfl)) dX (dC _)) (aK (gW (i:=2) vM.nd rfl (Bu rfl) (qN nZ (xU nA (pv 0) dX (λ_ _=>rfl)) (pv 1))) (aK (aH1 (qN aOq (xU nA (pv 0) dX (λ_ _=>rfl)) (pv 1)) (aP4 (pv 0) dX set_list)) (aR (cQ (pv 2))))) bZ) (aK (aH1 (qN uM (xU nA (pv 0) dX (λ_ _=>rfl)) dX) (aP4 (pv 0) dX set_list)) (aR (cQ (qN nZ (aV5 c_twice (hr.mono (by omega)) rfl bG (aN (xU nA (pv 0) dX (λ_ _=>rfl)) (aN (xU nA (pv 0) dX (λ_ _=>rfl)) aZ))) (pv 1)))))),?_⟩;refine⟨_,rfl,a,_,_,_,rfl,rfl,SqL.of ha,rfl,_,_,rfl,rfl,_,rfl,?_⟩;refine aZo (λ_=>?_) (λ_=>?_)
  ·refine⟨_,rfl,a,_,_,_,rfl,rfl,SqL.of ha,rfl,_,rfl,_,_,rfl,rfl,hm,?_⟩;refine⟨_,rfl,a,_,_,_,rfl,rfl,SqL.of ha,rfl,_,rfl,_,_,rfl,rfl,⟨hm,hm2⟩,?_⟩;refine⟨_,rfl,a,_,_,0,rfl,rfl,ha,rfl,?_⟩;exact⟨_,rfl,fin _ _ (up _ _ _ eb.refl)⟩
  ·refine⟨_,rfl,a,_,_,_,rfl,rfl,SqL.of ha,rfl,_,_,rfl,rfl,?_⟩;refine⟨_,rfl,a,_,_,1,rfl,rfl,ha,rfl,?_⟩;have hb:(upd H a (.lst ([V.int x,V.int y,V.int z].set 1 (.int (y+1))))) a=some (.lst [.int x,.int (y+1),.int z]):=aJ;have f1:Fw W H (upd H a (.lst ([V.int x,V.int y,V.int z].set 1 (.int (y+1))))):=up _ _ _ eb.refl;refine⟨_,rfl,a,_,_,_,rfl,rfl,SqL.of hb,rfl,_,rfl,a,_,_,_,rfl,rfl,SqL.of hb,rfl,?_⟩;refine⟨W,B,[.n z,.n (y+1)],λs=>∃r:Int,s= .sh (.n r),eb.to f1,⟨_,_,rfl,⟨rfl,rfl⟩,_,_,rfl,⟨rfl,rfl⟩,rfl⟩,⟨_,_,rfl,λr=>⟨r,rfl⟩⟩,λs v H' ⟨r,hs⟩ fw ro=>?_⟩;subst hs;obtain⟨rfl,_⟩:=ro;exact⟨_,rfl,_,_,rfl,rfl,hm,fin _ _ (f1.trans fw)⟩
theorem pull {α:Type} {g:α->U} {p:α->Prop}:∀{xs:List U},(∀x∈xs,∃a,x=g a/\p a)->∃as:List α,xs=as.map g/\∀a∈as,p a
 | [],_=>⟨[],rfl,nofun⟩
 |x::xs,h=>by
  obtain⟨a,rfl,ha⟩:=h x Ae;obtain⟨as,rfl,hs⟩:=pull λy hy=>h y (Ad _ hy);exact⟨a::as,rfl,λb hb=>by
   rcases List.mem_cons.mp hb with rfl|hb
   ·exact ha
   ·exact hs b hb⟩
def tH:aL ["_law_cell_here","_law_k","_law_number"] ["_law_cell_here","_law_k"] (aC pN):=⟨rfl,rfl,rfl,by decide+kernel,rfl,by decide+kernel,by decide+kernel⟩
def aMj (F:Fun K "_law_mixed" "_law_mixed" pN f fd):bB P w K mg base CX0 1 f fd ["_law_cell_here","_law_k"] (spV aQ5):=by
 refine vfn F tH (λcdv A outer s H E hr=>(aD (bD (i:=2) tH.nd (aU nZ jK (aU lE jK (aU bA bM (aU bA bM (aA 0) (aU lE jK aF (aA 1))) aF) aF) aF)) (aG (aV (aU nZ jK (aU lE jK (aA 2) (aU bA bM (aU uW jK (aA 2) aF) aF)) aF))))) ?_;rintro _ R ⟨c,k,rfl,q⟩;refine⟨rfl,.inl ⟨by decide,by decide⟩,.inr ⟨by decide,by decide⟩,by show(0:Int)<2147483647;decide,?_⟩;exact⟨⟨by decide,by decide⟩,.inl (aX7 _),by show(0:Int)<2147483647;decide,q _⟩
def tX:aL ["_law_cell_here","_law_k","_law_number"] ["_law_cell_here","_law_k"] (aC pO):=⟨rfl,rfl,rfl,by decide+kernel,rfl,by decide+kernel,by decide+kernel⟩
def aNv (F:Fun K "_law_twice" "_law_twice" pO f fd) (c__law_mixed:Cal P w K mg base CX0 1 "_law_mixed" ["_law_cell_here","_law_k"] (spV aQ5)):bB P w K mg base CX0 2 f fd ["_law_cell_here","_law_k"] (spV aQ5):=by
 refine vfn F tX (λcdv A outer s H E hr=>(aD (bD (i:=2) tX.nd (aU nZ jK (aU lE jK (aU bA bM (aU bA bM (aO c__law_mixed (hr.mono (by decide)) rfl (aB (aA 0) (aB (aA 1) aH))) (aU lE jK aF (aA 1))) aF) aF) aF)) (aG (aV (aU nZ jK (aU lE jK (aA 2) (aU bA bM (aU uW jK (aA 2) aF) aF)) aF))))) ?_;rintro _ R ⟨c,k,rfl,q⟩;refine⟨rfl,c,k,rfl,λr=>?_⟩;refine⟨.inl ⟨by decide,by decide⟩,.inr ⟨by decide,by decide⟩,by show(0:Int)<2147483647;decide,?_⟩;exact⟨⟨by decide,by decide⟩,.inl (aX7 _),by show(0:Int)<2147483647;decide,q _⟩
def aTd (K:Ac):Fv:=λus R=>∃(ns:List Int) (k:Nat),us=[.op (aDr K ns),.n (k:Int)]/\∀a b c:Int,R (.ow [.n a,.n b,.n c])
def uP:aL ["_law_script","_law_k","_law_cell_here"] ["_law_script","_law_k"] (aC rJ):=⟨rfl,rfl,rfl,by decide+kernel,rfl,by decide+kernel,by decide+kernel⟩
def aRk (F:Fun K "_law_well" "_law_well" rJ f fd) (c__law_cell:Cal P w K mg base CX0 1 "_law_cell" ["_law_script","_law_k"] (spV (aS2 K))) (T:Txt mg):bB P w K mg base CX0 2 f fd ["_law_script","_law_k"] (spV (aTd K)):=by
 refine vfn F uP (λcdv A outer s H E hr=>(aD (bD (i:=2) uP.nd (aO c__law_cell (hr.mono (by decide)) rfl (aB (aA 0) (aB (aA 1) aH)))) (aG (aV (cD (aB (bU bC bV (cD (aB aF (aB (aA 2) aH))) (dU aCh aP0 T.int Sb (aP (aCw aXr cF (aA 2) (aU aPi jK aF aF)) aY))) (aB aF (aB (aU bA bM (aA 2) (aA 1)) aH)))))))) ?_;rintro _ R ⟨ns,k,rfl,q⟩;refine⟨rfl,ns,k,rfl,λn=>?_⟩;have key:∀c:Bool,∃u,atI [U.n 0,U.n n] (if c=true then 1 else 0)=some u/\∃a,u= .n a:=λc=>by
  cases c
  ·exact⟨_,rfl,_,rfl⟩
  ·exact⟨_,rfl,_,rfl⟩
 obtain⟨u,e,a,rfl⟩:=key (decide ((10:Int) ^ (18:Int).toNat<=n));exact⟨⟨by decide,by decide,by decide⟩,_,e,q a 0 _⟩
def aIw:Fv:=λus R=>us=[.wl]/\∀(ns:List Int) (rs:List Rim),lJ ns->rs.length=ns.length->(∀r∈rs,r.ok)->R (.sh (.tp [.ls (ns.map U.n),.ls (rs.map Rim.u)]))
theorem aJb:∀(ns:List Int) (a m:Int),(∀n∈ns,1<=n/\n<=m)->0<=a->1<=m->ns.foldl (λa n=>a*n) a<=a*m ^ ns.length
 | [],a,m,_,_,_=>by simp
 |n::ns,a,m,h,ha,hm=>by
  have h1:=h n Ae;have h2:=aJb ns (a*n) m (λk hk=>h k (Ad _ hk)) (Jw ha (by omega)) hm;rw [Fm,Ah,Int.pow_succ];refine Hb h2 ?_;have hp:0<=m ^ ns.length:=Int.pow_nonneg (by omega)
  calc a*n*m ^ ns.length<=a*m*m ^ ns.length:=Ld (Lk h1.2 ha) hp
   _=a*(m ^ ns.length*m):=by rw [Int.mul_assoc,Int.mul_comm m]
def aNo {m:Int} (l:ns.length=k) (h:∀n∈ns,1<=n/\n<=m) (hk:(k=1/\m<=9)∨(k=2/\m<=4)∨(k=3/\m<=3)):lJ ns:=by
 have hm:∀M:Int,m<=M->∀n∈ns,1<=n/\n<=M:=λM hM n hn=>⟨(h n hn).1,Hb (h n hn).2 hM⟩;have hp:∀M:Int,m<=M->1<=M->qR ns<=1*M ^ ns.length:=λM hM h1=>aJb ns 1 M (hm M hM) (by decide) h1;rcases hk with ⟨rfl,e⟩|⟨rfl,e⟩|⟨rfl,e⟩
 ·have:=hp 9 e (by decide);rw [l]at this;exact⟨hm 9 e,by omega,by omega,Hb this (by decide)⟩
 ·have:=hp 4 e (by decide);rw [l]at this;exact⟨hm 9 (by omega),by omega,by omega,Hb this (by decide)⟩
 ·have:=hp 3 e (by decide);rw [l]at this;exact⟨hm 9 (by omega),by omega,by omega,Hb this (by decide)⟩
def fG (lo:Int) (n:Nat):(qK lo n).length=n:=by simp [qK]
abbrev vA:List Str:=["_law_well_here","_law_many","_law_most","_law_sizes","_law_rims"]
def gQ:aL ["_law_well_here","_law_many","_law_most","_law_sizes","_law_rims"] ["_law_well_here"] (aC iQ):=⟨rfl,rfl,rfl,by decide+kernel,rfl,by decide+kernel,by decide+kernel⟩
def aLo (F:Fun K "_law_lines" "_law_lines" iQ f fd) (c__law_draw:Cal P w K mg base CX0 3 "_law_draw" ["_law_well_here","_law_most"] (spV aBw)) (T:Txt mg):bB P w K mg base CX0 4 f fd ["_law_well_here"] (spV aIw):=by
 refine vfn F gQ (λcdv A outer s H E hr=>(aD (bD (i:=1) gQ.nd (bU bC bV (cD (aB aF (aB aF (aB aF (aB aF (aB aF aH)))))) (aO c__law_draw (hr.mono (by decide)) rfl (aB (aA 0) (aB aF aH))))) (aD (bD (i:=2) gQ.nd (bU bC bV (cD (aB (bU bC bV (cD (aB aF (aB aF (aB aF aH)))) (aU iC cF (aA 1) aF)) (aB aF aH))) (aU uW jK (aO c__law_draw (hr.mono (by decide)) rfl (aB (aA 0) (aB aF aH))) aF))) (aD (aJn (i:=3) (own:=["_law_k"]) (cap:=[("_law_well_here",0),("_law_most",2)]) gQ.nd (aC iQ) vA rfl rfl (λx h=>bO h) (by decide+kernel) rfl (vic (jY T.range (aP (aA 1) aY))) (λcl C s2 H2 fp=>(bL (i:=0) (show(["_law_k","_law_well_here","_law_most"]:List Str).Nodup by decide+kernel) rfl (Bu rfl) (Bz rfl))) (cT (by decide)) (λcl C s2 H2 fp=>(aU bA bM aF (aO c__law_draw (hr.mono (by decide)) rfl (aB (aA 1) (aB (aA 2) aH)))))) (aD (aJn (i:=4) (own:=["_law_k"]) (cap:=[("_law_well_here",0)]) gQ.nd (aC iQ) vA rfl rfl (λx h=>bO h) (by decide+kernel) rfl (vic (jY T.range (aP (aA 1) aY))) (λcl C s2 H2 fp=>(bL (i:=0) (show(["_law_k","_law_well_here"]:List Str).Nodup by decide+kernel) rfl (Bu rfl) (Bz rfl))) (cT (by decide)) (λcl C s2 H2 fp=>(bU bC bV (cD (aB (cY (aB bQ (aB (aO c__law_draw (hr.mono (by decide)) rfl (aB (aA 1) (aB aF aH))) aH))) (aB (cY (aB bQ aH)) (aB (cY (aB bQ aH)) aH)))) (aO c__law_draw (hr.mono (by decide)) rfl (aB (aA 1) (aB aF aH)))))) (qI 4 (qI 3 (aG (aV (cY (aB (aA 3) (aB (aA 4) aH)))))))))))) ?_;rintro _ R ⟨rfl,q⟩;refine⟨rfl,5,rfl,by decide,by decide,λr h0 h5=>?_⟩;have key:∃k:Nat,(k=1∨k=2∨k=3)/\atI [U.n 1,U.n 1,U.n 2,U.n 2,U.n 3] r=some (.n (k:Int)):=by
  have:r=0∨r=1∨r=2∨r=3∨r=4:=by omega
  rcases this with rfl|rfl|rfl|rfl|rfl
  ·exact⟨1,by decide,rfl⟩
  ·exact⟨1,by decide,rfl⟩
  ·exact⟨2,by decide,rfl⟩
  ·exact⟨2,by decide,rfl⟩
  ·exact⟨3,by decide,rfl⟩
 obtain⟨k,hk,e⟩:=key;refine⟨_,e,?_⟩;have key2:∃M:Int,atI [U.n 9,U.n 4,U.n 3] ((k:Int)-1)=some (.n M)/\((k=1/\M=9)∨(k=2/\M=4)∨(k=3/\M=3)):=by
  rcases hk with rfl|rfl|rfl
  ·exact⟨9,rfl,by decide⟩
  ·exact⟨4,rfl,by decide⟩
  ·exact⟨3,rfl,by decide⟩
 obtain⟨M,eM,hM⟩:=key2;refine⟨_,eM,4,rfl,by decide,by decide,λr2 h0 h4=>?_⟩;have key3:∃m:Int,atI [U.n M,U.n 2] (r2 / 3)=some (.n m)/\1<=m/\((k=1/\m<=9)∨(k=2/\m<=4)∨(k=3/\m<=3))/\m<=9:=by
  have:r2 / 3=0∨r2 / 3=1:=by omega
  rcases this with h|h
  ·rw [h];exact⟨M,rfl,by omega,by omega,by omega⟩
  ·rw [h];exact⟨2,rfl,by omega,by omega,by omega⟩
 obtain⟨m,em,m1,mk,m9⟩:=key3;refine⟨⟨by decide,by decide⟩,_,em,?_⟩;refine⟨by omega,by omega,by rw [fG];omega,oN (λx=>∃n:Int,x= .n n/\(1<=n/\n<=m)) (λu hu c hc=>⟨m,rfl,by omega,by omega,λr3 a b=>hc _ ⟨1+r3,rfl,by omega,by omega⟩⟩) λxs xl xp=>?_⟩;obtain⟨ns,rfl,hn⟩:=pull xp;rw [Ab,fG]at xl;refine⟨by omega,by omega,by rw [fG];omega,oN (λx=>∃n:Rim,x=n.u/\n.ok) (λu hu c hc=>?_) λys yl yp=>?_⟩
 ·refine⟨50,rfl,by decide,by decide,λr4 a b=>⟨3,rfl,by decide,by decide,λr5 a5 b5=>?_⟩⟩;have:r5=0∨r5=1∨r5=2:=by omega
  rcases this with rfl|rfl|rfl
  ·exact⟨_,rfl,hc _ ⟨.fixed r4,rfl,by constructor<;>omega⟩⟩
  ·exact⟨_,rfl,hc _ ⟨.mirror,rfl,trivial⟩⟩
  ·exact⟨_,rfl,hc _ ⟨.round,rfl,trivial⟩⟩
 ·obtain⟨rs,rfl,hr⟩:=pull yp;rw [Ab,fG]at yl;exact q ns rs (aNo (k:=k) (by omega) hn mk) (by omega) hr
def aL2:Fv:=λus R=>∃k:Nat,us=[.wl,.n (k:Int)]/\k<=3/\∀y:Tk,vV y->y.2.length=k->R (.sh (tkU y))
abbrev aFw:List Str:=["_law_well_here","_law_many","_law_far","_law_steps"]
def pP:aL ["_law_well_here","_law_many","_law_far","_law_steps"] ["_law_well_here","_law_many"] (aC mW):=⟨rfl,rfl,rfl,by decide+kernel,rfl,by decide+kernel,by decide+kernel⟩
def aPt (F:Fun K "_law_take" "_law_take" mW f fd) (c__law_draw:Cal P w K mg base CX0 3 "_law_draw" ["_law_well_here","_law_most"] (spV aBw)) (T:Txt mg):bB P w K mg base CX0 4 f fd ["_law_well_here","_law_many"] (spV aL2):=by
 refine vfn F pP (λcdv A outer s H E hr=>(aD (bD (i:=2) pP.nd (bU bC bV (cD (aB aF (aB aF (aB aF (aB aF aH))))) (aO c__law_draw (hr.mono (by decide)) rfl (aB (aA 0) (aB aF aH))))) (aD (bD (i:=3) pP.nd (dU (xF rfl) aEn T.tuple Mb (aP (mL (own:=["_law_k"]) (cap:=[("_law_well_here",0),("_law_far",2)]) (aC mW) aFw rfl rfl (λx h=>bO h) (by decide+kernel) rfl (vic (jY T.range (aP (aA 1) aY))) (λcl C s2 H2 fp=>(bL (i:=0) (show(["_law_k","_law_well_here","_law_far"]:List Str).Nodup by decide+kernel) rfl (Bu rfl) (Bz rfl))) (cT (by decide)) (λcl C s2 H2 fp=>(aU iC cF (aO c__law_draw (hr.mono (by decide)) rfl (aB (aA 1) (aB (aU bA bM (aU lE jK aF (aA 2)) aF) aH))) (aA 2)))) aY))) (aG (aV (cY (aB (aU bA bM aF (aU nZ jK (aU uW jK (aO c__law_draw (hr.mono (by decide)) rfl (aB (aA 0) (aB aF aH))) aF) aF)) (aB (aA 3) aH)))))))) ?_;rintro _ R ⟨k,rfl,hk,q⟩;refine⟨rfl,4,rfl,by decide,by decide,λr h0 h4=>?_⟩;have key:∃m:Int,atI [U.n 1,U.n 2,U.n 2,U.n 9] r=some (.n m)/\1<=m/\m<=9:=by
  have:r=0∨r=1∨r=2∨r=3:=by omega
  rcases this with rfl|rfl|rfl|rfl
  ·exact⟨1,rfl,by decide,by decide⟩
  ·exact⟨2,rfl,by decide,by decide⟩
  ·exact⟨2,rfl,by decide,by decide⟩
  ·exact⟨9,rfl,by decide,by decide⟩
 obtain⟨m,em,m1,m9⟩:=key;refine⟨_,em,by omega,by omega,by rw [fG];omega,oN (λx=>∃n:Int,x= .n n/\(-9<=n/\n<=9)) (λu hu c hc=>⟨.inl ⟨by decide,by decide⟩,2*m+1,rfl,by omega,by omega,λr3 a b=>hc _ ⟨r3-m,rfl,by omega,by omega⟩⟩) λxs xl xp=>?_⟩;obtain⟨ss,rfl,hs⟩:=pull xp;rw [Ab,fG]at xl;refine⟨6,rfl,by decide,by decide,λr4 a b=>⟨⟨by decide,by decide⟩,by show(0:Int)<3;decide,?_⟩⟩;exact q (1+r4 / 2 % 3,ss) ⟨by show 1<=1+r4 / 2 % 3;omega,by show 1+r4 / 2 % 3<=3;omega,hs⟩ (by show ss.length=k;omega)
def aYa {a b:Str} {l m:List Nat} (h1:a=tx l) (h2:b=tx m) (hz:l.length+m.length<=10000) (q:R (.sh (.s (tx (l++m))))):aUp (.s a) (.s b) R:=by
 subst h1 h2;exact⟨by rw [gK,gK];exact hz,by rw [gH];exact q⟩
def yD {a b:Str} {l m:List Nat} (h1:a=tx l) (h2:b=tx m) (hz:l.length+m.length<=10000):a.length+b.length<=10000:=by rw [h1,h2,gK,gK];exact hz
theorem sS (g:Tm->U):∀(ts:List Tm) (n:Nat),(ts.map g).eraseIdx n=(ts.eraseIdx n).map g
 | [],_=>rfl
 |_::_,0=>rfl
 |a::ts,n+1=>by rw [Aw,Gj,Gj,Aw,sS g ts n]
def tU (t:Tm):U:= .s (tx (txt t))
def aOb (k:Fin 5):opn k=tx (sgn (opn k)):=aFo _
structure Wd (ys:List Tk) (ts:List Tm):Prop where
 ok:∀t∈ts,lU t
 hs:(ts.map ht).sum<=7
 ps:(ts.map dG).sum+2*ts.length<=21
 ne:1<=ts.length
 rw_:∀x,x∈ys↔ ∃t∈ts,x∈raw t
theorem jN {g:Tm->Nat}:∀{ts:List Tm} {n:Nat} {t:Tm},ts[n]? =some t->(ts.map g).sum=g t+((ts.eraseIdx n).map g).sum
 | [],_,_,h=>by simp at h
 |a::ts,0,t,h=>by simp at h;subst h;simp
 |a::ts,n+1,t,h=>by
  have:=jN (g:=g) (ts:=ts) (n:=n) (t:=t) (by simpa using h);simp only [Aw,Fq,Gj,this];omega
def dW {t x:Tm} (h:ts[n]? =some t):x∈ts↔x=t∨x∈ts.eraseIdx n:=by
 induction ts generalizing n with
 |nil=>simp at h
 |cons a ts ih=>
  cases n with
  |zero=>simp at h;subst h;simp
  |succ n=>
   have:=ih (n:=n) (by simpa using h);simp only [Ca,Gj,this];constructor
   ·rintro(h|h|h)<;>simp [h]
   ·rintro(h|h|h)<;>simp [h]
def iI (h:ts[n]? =some t):ts.length=(ts.eraseIdx n).length+1:=by
 have:=(List.getElem?_eq_some_iff.mp h).1;rw [List.length_eraseIdx];split<;>omega
def Wd.join {i j:Nat} {a b c:Tm} (w:Wd ys ts) (h1:ts[i]? =some a) (h2:(ts.eraseIdx i)[j]? =some b) (hc:lU c) (hh:ht c<=ht a+ht b) (hp:dG c<=dG a+dG b+2) (hr:∀x,x∈raw c↔x∈raw a∨x∈raw b):Wd ys ((ts.eraseIdx i).eraseIdx j++[c]):=by
 have l1:=iI h1;have l2:=iI h2;refine⟨λt ht=>?_,?_,?_,?_,λx=>?_⟩
 ·rcases List.mem_append.mp ht with h|h
  ·exact w.ok t ((dW h1).mpr (.inr ((dW h2).mpr (.inr h))))
  ·rw [List.mem_singleton.mp h];exact hc
 ·have s1:=jN (g:=ht) h1;have s2:=jN (g:=ht) h2;have:=w.hs;simp only [Ay,Hn,Aw,Dn,Fq,Tq];omega
 ·have s1:=jN (g:=dG) h1;have s2:=jN (g:=dG) h2;have:=w.ps;simp only [Ay,Hn,Aw,Dn,Fq,Tq,Ag,Ah,Be];omega
 ·rw [Ag];show 1<=_+1;omega
 ·rw [w.rw_ x];constructor
  ·rintro⟨t,h,hx⟩;rcases (dW h1).mp h with rfl|h
   ·exact⟨c,by simp,(hr x).mpr (.inl hx)⟩
   ·rcases (dW h2).mp h with rfl|h
    ·exact⟨c,by simp,(hr x).mpr (.inr hx)⟩
    ·exact⟨t,Es _ h,hx⟩
  ·rintro⟨t,h,hx⟩;rcases List.mem_append.mp h with h|h
   ·exact⟨t,(dW h1).mpr (.inr ((dW h2).mpr (.inr h))),hx⟩
   ·rw [List.mem_singleton.mp h]at hx;rcases (hr x).mp hx with hx|hx
    ·exact⟨a,(dW h1).mpr (.inl rfl),hx⟩
    ·exact⟨b,(dW h1).mpr (.inr ((dW h2).mpr (.inl rfl))),hx⟩
def Wd.len (w:Wd ys ts) (h:t∈ts):(txt t).length<=1400/\ht t<=7/\dG t<=19:=by
 have h1:=nF (w.ok t h);obtain⟨n,hn,e⟩:=Hq h;have hg:ts[n]? =some t:=by rw [Ak hn,e]
 have s1:=jN (g:=ht) hg;have s2:=jN (g:=dG) hg;have:=w.hs;have:=w.ps;have:=w.ne;omega
def aH2:Fv:=λus R=>∃ys:List Tk,us=[.wl,.ls (ys.map tkU)]/\ys.length<=6/\(∀y∈ys,vV y/\1<=y.2.length/\y.2.length<=3)/\∀t,lU t->ht t<=7->dG t<=19->(∀x,x∈ys↔x∈raw t)->R (.sh (tU t))
abbrev aE6:List Str:=["_law_well_here","_law_takes","_law_words","_law_way","_law_one","_law_two"]
def eO:aL ["_law_well_here","_law_takes","_law_words","_law_way","_law_one","_law_two"] ["_law_well_here","_law_takes"] (aC nC):=⟨rfl,rfl,rfl,by decide+kernel,rfl,by decide+kernel,by decide+kernel⟩
def aOt (F:Fun K "_law_term" "_law_term" nC f fd) (c__law_draw:Cal P w K mg base CX0 3 "_law_draw" ["_law_well_here","_law_most"] (spV aBw)) (T:Txt mg):bB P w K mg base CX0 4 f fd ["_law_well_here","_law_takes"] (spV aH2):=by
 refine vfn F eO (λcdv A outer s H E hr=>(aD (aJn (i:=2) (own:=["_law_back","_law_steps"]) (cap:=[]) eO.nd (aC nC) aE6 rfl rfl (λx h=>bO h) (by decide+kernel) rfl (vic (bT (aA 1))) (λcl C s2 H2 fp=>(aDu rfl (mC (bL (i:=0) (show(["_law_back","_law_steps"]:List Str).Nodup by decide+kernel) rfl (Bu rfl) (Bz rfl)) (mC (bL (i:=1) (show(["_law_back","_law_steps"]:List Str).Nodup by decide+kernel) rfl (Bu rfl) (Bz rfl)) yM)))) (aHp (is:=[0,1]) rfl (by decide)) (λcl C s2 H2 fp=>(aU bA bM (aU bA bM bQ (aR5 bQ (aP (aU bA bM (cD (aB (dU sG aD4 T.str Nf (aP (aA 0) aY)) aH)) (aWo (own:=["_law_step"]) (by decide+kernel) rfl (vic (aNt (aA 1))) (λcl C s2 H2 fp=>(bL (i:=0) (show(["_law_step"]:List Str).Nodup by decide+kernel) rfl (Bu rfl) (Bz rfl))) (cT (by decide)) (λcl C s2 H2 fp=>(dU sG aD4 T.str Nf (aP (aA 0) aY))))) aY))) bQ))) (aD (bD (i:=2) eO.nd (aU bA bM (aA 2) (cD (aB (dU sG aD4 T.str Nf (aP (aU iC cF (aO c__law_draw (hr.mono (by decide)) rfl (aB (aA 0) (aB aF aH))) aF) aY)) aH)))) (aD (aGm Bd (bW tE cF (bJ aX dO T.len Ek (aP (aA 2) aY)) aF) (aD (bD (i:=3) eO.nd (aO c__law_draw (hr.mono (by decide)) rfl (aB (aA 0) (aB aF aH)))) (aD (aHq (i:=4) 2 eO.nd (aO c__law_draw (hr.mono (by decide)) rfl (aB (aA 0) (aB (bJ aX dO T.len Ek (aP (aA 2) aY)) aH)))) (aG (cW (bW vW cF (aA 3) aF) (aD (aHq (i:=5) 2 eO.nd (aO c__law_draw (hr.mono (by decide)) rfl (aB (aA 0) (aB (bJ aX dO T.len Ek (aP (aA 2) aY)) aH)))) (aG (aAf 2 (aU bA bM (aU bA bM (aU bA bM (aU bA bM (aU bA bM (aU bA bM bQ (aA 4)) bQ) (bU bC bV (cD (aB bQ (aB bQ (aB bQ (aB bQ (aB bQ aH)))))) (aA 3))) bQ) (aA 5)) bQ)))) (aD (aHq (i:=5) 2 eO.nd (aO c__law_draw (hr.mono (by decide)) rfl (aB (aA 0) (aB (bJ aX dO T.len Ek (aP (aA 2) aY)) aH)))) (aG (aAf 2 (aU bA bM (aU bA bM (aU bA bM (aU bA bM (aU bA bM (aU bA bM bQ (aA 4)) bQ) (aA 5)) bQ) (dU sG aD4 T.str Nf (aP (aO c__law_draw (hr.mono (by decide)) rfl (aB (aA 0) (aB aF aH))) aY))) bQ))))))))) (aG (aV (bU bC bV (aA 2) aF))))))) ?_;rintro _ R ⟨ys,rfl,yl,yg,q⟩;have b14:∀s:Int,(-9<=s/\s<=9)->(itx s).length<=14/\s.natAbs.log2<1920:=λs h=>⟨sH (by omega),wJ (by omega)⟩;refine⟨rfl,by rw [Ab];omega,?_⟩;have words:∀{f:U->(Option U->Prop)->Prop} {Q:List U->Prop},(∀y∈ys,∀k:Option U->Prop,k (some (tU (.take y.1 y.2)))->f (tkU y) k)->Q (ys.map λy=>tU (.take y.1 y.2))->gD f (ys.map tkU) [] Q:=by
  intro f Q hf hq;have key:∀(zs:List Tk) (acc:List U),(∀y∈zs,∀k:Option U->Prop,k (some (tU (.take y.1 y.2)))->f (tkU y) k)->Q (acc++zs.map λy=>tU (.take y.1 y.2))->gD f (zs.map tkU) acc Q:=by
   intro zs;induction zs with
   |nil=>exactλacc _ q=>by rw [Dn,Bg]at q;exact q
   |cons z zs ih=>exactλacc hf q=>hf z Ae _ (ih _ (λy hy=>hf y (Ad _ hy)) (by rw [Bi];exact q))
  exact key ys [] hf hq
 refine words (λy hy k hk=>?_) ?_
 ·obtain⟨⟨g1,g2,g3⟩,g4,g5⟩:=yg y hy;refine⟨rfl,[32],congrArg U.s (bN [32] rfl),(b14 y.1 (by omega)).2,by rw [Ab];omega,eY (h:=λu=>match u with| .v (.int i)=> .s (tx (itx i))|u=>u) (λu hu c hc=>?_) ?_⟩
  ·obtain⟨s,hs,rfl⟩:=List.mem_map.mp hu;exact⟨(b14 s (g3 s hs)).2,hc⟩
  ·have es:(y.2.map U.n).map (λu=>match u with| .v (.int i)=>U.s (tx (itx i))|u=>u)=aBo (y.2.map itx):=by unfold aBo;rw [Bk,Bk];rfl
   rw [Dy,es];have gl:(glu [32] (itx y.1::y.2.map itx)).length<=(itx y.1::y.2.map itx).length*(14+1):=aC1 [32] _ 14 λl hl=>by
    rcases List.mem_cons.mp hl with rfl|hl
    ·exact(b14 y.1 (by omega)).1
    ·obtain⟨s,hs,rfl⟩:=List.mem_map.mp hl;exact(b14 s (g3 s hs)).1
   have sl:((itx y.1::y.2.map itx).map Cg).sum<=(itx y.1::y.2.map itx).length*14:=by
    have key:∀ls:List (List Nat),(∀l∈ls,l.length<=14)->(ls.map Cg).sum<=ls.length*14:=by
     intro ls;induction ls with
     |nil=>exactλ_=>Am _
     |cons a ls ih=>
      intro h;have:=ih λl hl=>h l (Ad _ hl);have:=h a Ae;rw [Aw,Fq,Ah];omega
    refine key _ λl hl=>?_;rcases List.mem_cons.mp hl with rfl|hl
    ·exact(b14 y.1 (by omega)).1
    ·obtain⟨s,hs,rfl⟩:=List.mem_map.mp hl;exact(b14 s (g3 s hs)).1
   have ln:(itx y.1::y.2.map itx).length<=4:=by rw [Ah,Ab];omega
   refine⟨by show 1+(aBo (y.2.map itx)).length<=10000;unfold aBo;rw [Ab,Ab];omega,itx y.1::y.2.map itx,rfl,by show _+_*1<=_;omega,?_⟩;refine aYa (l:=[91]) (bN [91] rfl) rfl (by show 1+_<=_;omega) ?_;refine aYa (R:=λs=>s.es λx=>k (some x)) (m:=[93]) rfl (bN [93] rfl) (by simp only [Ag,Ah,Be];simp only [Ah,Ab]at gl;omega) ?_;exact hk
 ·refine⟨30,rfl,by decide,by decide,λr h0 h1=>⟨wJ (by omega),?_⟩⟩;refine⟨by show _+1<=10000;rw [Ab];omega,?_⟩;have w0:Wd ys (ys.map (λy=>Tm.take y.1 y.2)++[.num (r-9)]):=by
   refine⟨λt ht=>?_,?_,?_,by simp,λx=>?_⟩
   ·rcases List.mem_append.mp ht with h|h
    ·obtain⟨y,hy,rfl⟩:=List.mem_map.mp h;exact⟨trivial,λx hx=>by rw [List.mem_singleton.mp hx];exact yg y hy⟩
    ·rw [List.mem_singleton.mp h];exact⟨by simp only [Wf];omega,λx hx=>nomatch hx⟩
   ·have:∀zs:List Tk,((zs.map λy=>Tm.take y.1 y.2).map ht).sum=zs.length:=λzs=>by induction zs with|nil=>rfl|cons a l ih=>rw [Aw,Aw,Fq,ih,Ah];simp [ht];omega
    rw [Ay,Hn,this];simp [ht];omega
   ·have:∀zs:List Tk,((zs.map λy=>Tm.take y.1 y.2).map dG).sum=zs.length:=λzs=>by induction zs with|nil=>rfl|cons a l ih=>rw [Aw,Aw,Fq,ih,Ah];simp [dG];omega
    rw [Ay,Hn,this,Ag,Ab];simp [dG];omega
   ·constructor
    ·intro hx;exact⟨.take x.1 x.2,Es _ (List.mem_map.mpr ⟨x,hx,rfl⟩),Ae⟩
    ·rintro⟨t,ht,hx⟩;rcases List.mem_append.mp ht with h|h
     ·obtain⟨y,hy,rfl⟩:=List.mem_map.mp h;rw [List.mem_singleton.mp hx];exact hy
     ·rw [List.mem_singleton.mp h]at hx;exact nomatch hx
  refine⟨λm ρ=>∃(ts:List Tm) (x y z:Sl),m=ts.length/\Wd ys ts/\ρ=[.sh .wl,.sh (.ls (ys.map tkU)),.ow (ts.map tU),x,y,z],⟨_,_,.no,.no,.no,rfl,w0,?_⟩,?_⟩
  ·rw [Ay,Bk];rfl
  ·rintro m ρ ⟨ts,x,y,z,rfl,wd,rfl⟩;have tl:(ts.map tU).length=ts.length:=Ab ..;have t7:ts.length<=10:=by have:=wd.ps;omega
   have tg:∀{n:Nat} {u:Tm},ts[n]? =some u->(ts.map tU)[n]? =some (tU u):=λh=>by rw [Az,h];rfl
   refine⟨λhc=>?_,λhc=>?_⟩
   ·have hc:=of_decide_eq_true hc;rw [tl]at hc;refine⟨7,rfl,by decide,by decide,λway a0 a7=>?_⟩;refine⟨_,rfl,by rw [tl];omega,by rw [tl];omega,λi i0 i1=>?_⟩;rw [tl]at i1;obtain⟨n,rfl⟩:=Iu i0;obtain⟨a,ha⟩:∃a,ts[n]? =some a:=⟨_,Ak (by omega)⟩;have ham:=Bn ha;refine⟨n,tU a,rfl,tg ha,by omega,?_⟩;have l1:=iI ha;have te:(ts.map tU).eraseIdx n=(ts.eraseIdx n).map tU:=sS ..;have bl:=wd.len ham;refine⟨λhw=>?_,λhw=>?_⟩
    ·refine⟨_,rfl,by rw [te,Ab];omega,by rw [te,Ab];omega,λi2 j0 j1=>?_⟩;rw [te,Ab]at j1;obtain⟨n2,rfl⟩:=Iu j0;obtain⟨b,hb⟩:∃b,(ts.eraseIdx n)[n2]? =some b:=⟨_,Ak (by omega)⟩;have hbm:b∈ts:=(dW ha).mpr (.inr (Bn hb));have bl2:=wd.len hbm;have l2:=iI hb;refine⟨n2,tU b,rfl,by rw [te,Az,hb];rfl,by rw [te,Ab];omega,?_⟩;have te2:((ts.map tU).eraseIdx n).eraseIdx n2=((ts.eraseIdx n).eraseIdx n2).map tU:=by rw [te];exact sS ..
     refine⟨by rw [te2,Ab];omega,?_⟩;have hway:=of_decide_eq_true hw;obtain⟨k,hk⟩:∃k:Fin 5,atI [U.s "+",U.s "-",U.s "*",U.s "min",U.s "max"] way=some (.s (opn k)):=by
      have:way=0∨way=1∨way=2∨way=3∨way=4:=by omega
      rcases this with rfl|rfl|rfl|rfl|rfl
      ·exact⟨0,rfl⟩
      ·exact⟨1,rfl⟩
      ·exact⟨2,rfl⟩
      ·exact⟨3,rfl⟩
      ·exact⟨4,rfl⟩
     have ol:=aI0 k;have e1:Au "("++tx (txt a)=tx ([40]++txt a):=by rw [bN (x:="(") [40] rfl,gH]
     have e2:Au "("++tx (txt a)++Au " "=tx ([40]++txt a++[32]):=by rw [e1,bN (x:=" ") [32] rfl,gH]
     have e3:Au "("++tx (txt a)++Au " "++opn k=tx ([40]++txt a++[32]++sgn (opn k)):=by
      rw [e2];exact(congrArg (λz=>tx ([40]++txt a++[32])++z) (aOb k)).trans (gH ..)
     have e4:Au "("++tx (txt a)++Au " "++opn k++Au " "=tx ([40]++txt a++[32]++sgn (opn k)++[32]):=by rw [e3,bN (x:=" ") [32] rfl,gH]
     have e5:Au "("++tx (txt a)++Au " "++opn k++Au " "++tx (txt b)=tx ([40]++txt a++[32]++sgn (opn k)++[32]++txt b):=by rw [e4,gH]
     have e6:Au "("++tx (txt a)++Au " "++opn k++Au " "++tx (txt b)++Au ")"=tx (txt (.bin k a b)):=by
      rw [e5,bN (x:=")") [41] rfl,gH];simp [txt]
     refine⟨yD (bN [40] rfl) rfl (by simp only [Ag,Ah,Be];omega),yD e1 (bN [32] rfl) (by simp only [Ag,Ah,Be];omega),_,hk,yD e2 (aOb k) (by simp only [Ag,Ah,Be];omega),yD e3 (bN [32] rfl) (by simp only [Ag,Ah,Be];omega),yD e4 rfl (by simp only [Ag,Ah,Be];omega),yD e5 (bN [41] rfl) (by simp only [Ag,Ah,Be];omega),?_⟩;have okc:lU (.bin k a b):=⟨⟨(wd.ok a ham).1,(wd.ok b hbm).1⟩,λx hx=>(List.mem_append.mp hx).elim ((wd.ok a ham).2 x) ((wd.ok b hbm).2 x)⟩;have pa:=pI a;have pb:=pI b;refine⟨_,?_,_,.sh (.n way),.sh (tU a),.sh (tU b),rfl,wd.join ha hb okc (by simp only [ht];omega) (by simp only [dG];omega) (λx=>Gi),?_⟩
     ·rw [Ag];show _+1<_;omega
     ·rw [te2,Ay,e6];rfl
    ·refine⟨_,rfl,by rw [te,Ab];omega,by rw [te,Ab];omega,λi2 j0 j1=>?_⟩;rw [te,Ab]at j1;obtain⟨n2,rfl⟩:=Iu j0;obtain⟨b,hb⟩:∃b,(ts.eraseIdx n)[n2]? =some b:=⟨_,Ak (by omega)⟩;have hbm:b∈ts:=(dW ha).mpr (.inr (Bn hb));have bl2:=wd.len hbm;have l2:=iI hb;refine⟨n2,tU b,rfl,by rw [te,Az,hb];rfl,by rw [te,Ab];omega,?_⟩;have te2:((ts.map tU).eraseIdx n).eraseIdx n2=((ts.eraseIdx n).eraseIdx n2).map tU:=by rw [te];exact sS ..
     refine⟨by rw [te2,Ab];omega,?_⟩;have e1:Au "("++tx (txt a)=tx ([40]++txt a):=by rw [bN (x:="(") [40] rfl,gH]
     have e2:Au "("++tx (txt a)++Au " ? "=tx ([40]++txt a++[32,63,32]):=by rw [e1,bN (x:=" ? ") [32,63,32] rfl,gH]
     have e3:Au "("++tx (txt a)++Au " ? "++tx (txt b)=tx ([40]++txt a++[32,63,32]++txt b):=by rw [e2,gH]
     have e4:Au "("++tx (txt a)++Au " ? "++tx (txt b)++Au " : "=tx ([40]++txt a++[32,63,32]++txt b++[32,58,32]):=by rw [e3,bN (x:=" : ") [32,58,32] rfl,gH]
     refine⟨yD (bN [40] rfl) rfl (by simp only [Ag,Ah,Be];omega),yD e1 (bN [32,63,32] rfl) (by simp only [Ag,Ah,Be];omega),yD e2 rfl (by simp only [Ag,Ah,Be];omega),yD e3 (bN [32,58,32] rfl) (by simp only [Ag,Ah,Be];omega),9,rfl,by decide,by decide,λc c0 c9=>⟨wJ (by omega),?_⟩⟩;have cl:=sH (n:=c) (by omega);have e5:Au "("++tx (txt a)++Au " ? "++tx (txt b)++Au " : "++tx (itx c)=tx ([40]++txt a++[32,63,32]++txt b++[32,58,32]++itx c):=by rw [e4,gH]
     have e6:Au "("++tx (txt a)++Au " ? "++tx (txt b)++Au " : "++tx (itx c)++Au ")"=tx (txt (.cho a b (.num c))):=by
      rw [e5,bN (x:=")") [41] rfl,gH];simp [txt]
     refine⟨yD e4 rfl (by simp only [Ag,Ah,Be];omega),yD e5 (bN [41] rfl) (by simp only [Ag,Ah,Be];omega),?_⟩;have okc:lU (.cho a b (.num c)):=⟨⟨(wd.ok a ham).1,(wd.ok b hbm).1,by simp only [Wf];omega⟩,λx hx=>(List.mem_append.mp hx).elim ((wd.ok a ham).2 x) λh=>(List.mem_append.mp h).elim ((wd.ok b hbm).2 x) nofun⟩;have pa:=pI a;have pb:=pI b;refine⟨_,?_,_,.sh (.n way),.sh (tU a),.sh (tU b),rfl,wd.join ha hb okc (by simp only [ht];omega) (by simp only [dG];omega) (λx=>by simp [raw]),?_⟩
     ·rw [Ag];show _+1<_;omega
     ·rw [te2,Ay,e6];rfl
   ·have hc:=of_decide_eq_false hc;rw [tl]at hc;match ts,wd,hc with
    | [t],wd,_=>
     have:=wd.len (t:=t) (by simp);exact⟨_,rfl,q t (wd.ok t (by simp)) this.2.1 this.2.2 λx=>by rw [wd.rw_ x];simp⟩
    | [],wd,_=>exact absurd wd.ne (by decide)
    |_::_::_,_,hc=>rw [Ah,Ah]at hc;omega
structure aPh (ys:List Tk) (n:Nat):Prop where
 gt:∀y∈ys,vV y/\y.2.length=n
 yl:ys.length<=17
 n3:n<=3
def aE4 {α:Type} {g:Tk->U} {f:U->(Option U->Prop)->Prop} {Q:List U->Prop} (hf:∀y∈ys,∀k:Option U->Prop,k (some (g y))->f (tkU y) k) (hq:Q (ys.map g)):gD f (ys.map tkU) [] Q:=by
 have key:∀(zs:List Tk) (acc:List U),(∀y∈zs,∀k:Option U->Prop,k (some (g y))->f (tkU y) k)->Q (acc++zs.map g)->gD f (zs.map tkU) acc Q:=by
  intro zs;induction zs with
  |nil=>exactλacc _ q=>by rw [Dn,Bg]at q;exact q
  |cons z zs ih=>exactλacc hf q=>hf z Ae _ (ih _ (λy hy=>hf y (Ad _ hy)) (by rw [Bi];exact q))
 exact key ys [] hf hq
def aSk (ok:lU t) (ln:Ln t n) (h:qT t zs):aPh zs n:=⟨λy hy=>⟨(ok.2 y ((h.2 y).mp hy)).1,ln.2.1 y ((h.2 y).mp hy)⟩,yZ ln.few h,by have:=ln.1;omega⟩
def aGj (n:Nat) (ns:List Int):U.dts n (ns.map U.n):=by
 induction ns with
 |nil=>cases n<;>trivial
 |cons r rs ih=>cases n<;>exact⟨trivial,ih⟩
def jP (n:Nat) (ys:List Tk):U.dts (n+2) (ys.map tkU):=by
 induction ys with
 |nil=>trivial
 |cons y ys ih=>exact⟨⟨trivial,aGj n y.2,trivial⟩,ih⟩
def aAx {p:Tk->Bool} {f:U->(Option U->Prop)->Prop} {Q:List U->Prop} (hf:∀y∈ys,∀k:Option U->Prop,(p y=true->k (some (tkU y)))->(p y=false->k none)->f (tkU y) k) (hq:Q ((ys.filter p).map tkU)):gD f (ys.map tkU) [] Q:=by
 have key:∀(zs:List Tk) (acc:List U),(∀y∈zs,∀k:Option U->Prop,(p y=true->k (some (tkU y)))->(p y=false->k none)->f (tkU y) k)->Q (acc++(zs.filter p).map tkU)->gD f (zs.map tkU) acc Q:=by
  intro zs;induction zs with
  |nil=>exactλacc _ q=>by rw [List.filter_nil,Dn,Bg]at q;exact q
  |cons z zs ih=>
   intro acc hf q;refine hf z Ae _ (λh=>?_) λh=>?_
   ·rw [Ni h]at q;exact ih _ (λy hy=>hf y (Ad _ hy)) (by rw [Bi];exact q)
   ·rw [Nj (by rw [h];exact Aj)]at q;exact ih _ (λy hy=>hf y (Ad _ hy)) q
 exact key ys [] hf hq
abbrev wNm:List Str:=["sizes","rims","places","rounds","takes","deep","modulus","term","first","spots"]
def wU (ns:List Int) (rs:List Rim) (pl:List U) (r:Int) (ys:List Tk) (dp m:Int) (t:Tm) (ls:List (List Int)) (sp:List U):U:=
 .dk wNm [.ls (ns.map U.n),.ls (rs.map Rim.u),.ls pl,.n r,.ls (ys.map tkU),.n dp,.n m,tU t,.ls (jC ls),.ls sp]
def pU (p:List Int):U:= .tp (p.map U.n)
def ext (n:Int) (p:List Int):List (List Int):=(Bq n.toNat).map λ(i:Nat)=>p++[0+(i:Int)]
def aAq (ns:List Int):List (List Int):=ns.foldl (λps n=>ps.flatMap (ext n)) [[]]
abbrev plU (ns:List Int):List U:=(aAq ns).map pU
def spU (pl:List U) (n:Nat):List U:=(Bq n).flatMap λ(j:Nat)=>pl.map λu=> .tp [.n (1+(j:Int)),u]
structure GoodW (ns:List Int) (rs:List Rim) (r:Int) (ys:List Tk) (m:Int) (t:Tm) (ls:List (List Int)):Prop where
 gj:aSt ns rs t m r ls
 pr:dG t<=40
 tk:qT t ys
def aMt (K:Ac):Fv:=λus R=>∃(sc:List Int) (k:Nat) (mo:Int),us=[.op (aDr K sc),.n (k:Int),.n mo]/\1<=mo/\mo<=120/\∀ns rs r ys dp m t ls,GoodW ns rs r ys m t ls->R (.sh (wU ns rs (plU ns) r ys dp m t ls (spU (plU ns) r.toNat)))
def aTj (N:Cn) (CG CJ:Addr):Fv:=λus R=>∃ns rs pl r ys dp m t ls sp,us=[wU ns rs pl r ys dp m t ls sp]/\GoodW ns rs r ys m t ls/\∀zs,qT t zs->R (.sh (aEb N CG CJ ns rs t zs m r ls))
theorem aBy {x:Str} {u:U} {R:Sl->Prop} (q:R (.sh u)):∀{xs:List Str} {us:List U} {k:Nat},xs.Nodup->xs[k]? =some x->us[k]? =some u->wH x xs us R
 | [],_,_,_,h,_=>by simp at h
 |_::_,[],_,_,_,h=>by simp at h
 |a::xs,v::us,0,_,h1,h2=>by
  simp at h1 h2;subst h1 h2;exact .inl ⟨rfl,q⟩
 |a::xs,v::us,k+1,nd,h1,h2=>by
  have h1:xs[k]? =some x:=by simpa using h1
  refine .inr ⟨λe=>?_,aBy q (List.nodup_cons.mp nd).2 h1 (by simpa using h2)⟩;subst e;exact(List.nodup_cons.mp nd).1 (Bn h1)
def wF {x:Str} {us:List U} {u:U} (k:Nat) (hx:wNm[k]? =some x) (hu:us[k]? =some u) (q:R (.sh u)):wH x wNm us R:=aBy q (by decide+kernel) hx hu
def xN:aL ["_law_world_here","_law_grid"] ["_law_world_here"] (aC uD):=⟨rfl,rfl,rfl,by decide+kernel,rfl,by decide+kernel,by decide+kernel⟩
def aRq {CG CJ:Addr} (F:Fun K "_law_job" "_law_job" uD f fd) (M_Grid:MkU P w K mg base 5 CG "Grid" ["self","sizes","rims"] aGz) (M_Job:MkU P w K mg base 14 CJ "Job" ["self","grid","term","modulus","rounds","first"] (aHs N CG)) (c_read_term:Cal P w K mg base CX0 29 "read_term" ["text"] (spV (aNb N))) (T:Txt mg):bB P w K mg base CX0 30 f fd ["_law_world_here"] (spV (aTj N CG CJ)):=by
 refine vfn F xN (λcdv A outer s H E hr=>(aD (bD (i:=1) xN.nd (aJc M_Grid (hr.mono (by decide)) (aB (dU (mD rfl) vL T.list Ja (aP (jO (oJ hr) (aA 0)) aY)) (aB (dU (mD rfl) vL T.list Ja (aP (jO (oJ hr) (aA 0)) aY)) aH)))) (aG (aV (aJc M_Job (hr.mono (by decide)) (aB (aA 1) (aB (aO c_read_term (hr.mono (by decide)) rfl (aB (jO (oJ hr) (aA 0)) aH)) (aB (jO (oJ hr) (aA 0)) (aB (jO (oJ hr) (aA 0)) (aB (jO (oJ hr) (aA 0)) aH)))))))))) ?_;rintro _ R ⟨ns,rs,pl,r,ys,dp,m,t,ls,sp,rfl,g,q⟩;refine⟨rfl,wF 0 rfl rfl (wF 1 rfl rfl ⟨ns,rs,rfl,g.gj.gs,g.gj.el,g.gj.rk,?_⟩)⟩;refine wF 7 rfl rfl ⟨t,_,rfl,g.gj.hd,g.gj.ok,g.pr,g.gj.ln,wF 6 rfl rfl (wF 3 rfl rfl (wF 8 rfl rfl ?_))⟩;exact⟨ns,rs,t,m,r,ls,rfl,g.gj,λzs hz=>q zs hz⟩
structure Drawn (ys zs:List Tk) (dp m:Int) (t:Tm) (ls:List (List Int)) (n:Nat):Prop where
 so:zs.Pairwise λx y=>mO x y=true
 mem:∀y,y∈zs↔y∈ys
 d1:dp∈(1:Int)::ys.map (·.1)
 dm:∀a∈(1:Int)::ys.map (·.1),a<=dp
 m2:2<=m/\m<=1000000000
 ok:lU t
 hd:ht t<=7
 pr:dG t<=19
 rw_:∀x,x∈ys↔x∈raw t
 ll:(ls.length:Int)=dp
 lo:∀l∈ls,l.length=n/\∀x∈l,0<=x/\x<m
mutual
theorem aSx:∀{n m:Nat},n<=m->∀u:U,U.dt n u->U.dt m u
 |_,_,_,.v _,_=>by unfold U.dt;trivial
 |n+1,m+1,h,.tp l,t=>aIa (Oe h) l t
 |n+1,m+1,h,.ls l,t=>aIa (Oe h) l t
theorem aIa:∀{n m:Nat},n<=m->∀l:List U,U.dts n l->U.dts m l
 |_,_,_,[],_=>by unfold U.dts;trivial
 |_,_,h,u::l,⟨a,b⟩=>⟨aSx h u a,aIa h l b⟩
end
theorem aF4 (i:Int):∀{l:List U},U.dts 5 l->U.dts 30 (l.map λu=>U.tp [.n i,u])
 | [],_=>trivial
 |u::_,⟨a,b⟩=>⟨⟨trivial,aSx (by decide) u a,trivial⟩,aF4 i b⟩
def rP (pl:List U) (n:Nat):spU pl n++(pl.map λu=> .tp [.n (1+(n:Int)),u])=spU pl (n+1):=by
 unfold spU;rw [List.range_succ,List.flatMap_append];simp
def aZ9:TVS:=λE ρ=>∃(a0 a1 a2 a7 a8 a9 a12 a13:Sl) (ns:List Int) (rs:List Rim) (pl:List U) (ys:List Tk) (r:Int),ρ=[a0,a1,a2,.sh .wl,.sh (.ls (ns.map U.n)),.sh (.ls (rs.map Rim.u)),.sh (.ls pl),a7,a8,a9,.sh (.ls (ys.map tkU)),.sh (.n r),a12,a13]/\
 pl.length<=40/\U.dts 5 pl/\ys.length<=6/\(∀y∈ys,vV y/\1<=y.2.length/\y.2.length<=3)/\0<=r/\r<=12/\∀zs dp m t ls,U.dts 30 (spU pl r.toNat)->Drawn ys zs dp m t ls pl.length->E.rt (.sh (wU ns rs pl r zs dp m t ls (spU pl r.toNat)))
abbrev fY:List Str:=["_law_script","_law_k","_law_most","_law_well_here","_law_sizes","_law_rims","_law_places","_law_size","_law_longer","_law_place","_law_takes","_law_rounds","_law_world_here","_law_turn"]
def bF:aL ["_law_script","_law_k","_law_most","_law_well_here","_law_sizes","_law_rims","_law_places","_law_size","_law_longer","_law_place","_law_takes","_law_rounds","_law_world_here","_law_turn"] ["_law_script","_law_k","_law_most"] (aC cA):=⟨rfl,rfl,rfl,by decide+kernel,rfl,by decide+kernel,by decide+kernel⟩
set_option maxHeartbeats 4000000 in
def suf (T:Txt mg) (c__law_draw:Cal P w K mg base CX0 3 "_law_draw" ["_law_well_here","_law_most"] (spV aBw)) (c__law_term:Cal P w K mg base CX0 4 "_law_term" ["_law_well_here","_law_takes"] (spV aH2)) (F:Fun K "_law_world" "_law_world" cA f fd) (cdv:Value) (A:Around) (outer:List Env) (s:Shared) (H:Hp) (E:XK) (hr:dH 29 (A.deeper (envOfC "_law_world" (aC cA) s.heap.objs.size f cdv))):
  VSs (aF8 CX0 P w K mg base fY "_law_world" (aC cA) f cdv A outer s H E).nox ((fU cA).drop 6) aZ9:=by
 refine aM1 ((aD (bD (i:=12) bF.nd (aSi (vZ (aA 4) (vZ (aA 5) (vZ (aA 6) (vZ (aA 11) (vZ (aDm hr rfl T.sorted T.set (aP (aA 10) aY)) aVx))))) (by decide+kernel) (by decide))) (aD (vJ 12 hr (bJ (aK6 rfl) aSd T.max boot_max (aP (aU bA bM (cD (aB aF aH)) (mL (own:=["_law_back","_law_steps"]) (cap:=[]) (aC cA) fY rfl rfl (λx h=>bO h) (by decide+kernel) rfl (vic (bT (aA 10))) (λcl C s2 H2 fp=>(aDu rfl (mC (bL (i:=0) (show(["_law_back","_law_steps"]:List Str).Nodup by decide+kernel) rfl (Bu rfl) (Bz rfl)) (mC (bL (i:=1) (show(["_law_back","_law_steps"]:List Str).Nodup by decide+kernel) rfl (Bu rfl) (Bz rfl)) yM)))) (aHp (is:=[0,1]) rfl (by decide)) (λcl C s2 H2 fp=>(aA 0)))) aY))) (aD (vJ 12 hr (aU bA bM aF (aO c__law_draw (hr.mono (by decide)) rfl (aB (aA 3) (aB (bU bC bV (cD (aB aF (aB (aU iC cF (aU aPi jK aF aF) aF) aH))) (aO c__law_draw (hr.mono (by decide)) rfl (aB (aA 3) (aB aF aH)))) aH))))) (aD (vJ 12 hr (aO c__law_term (hr.mono (by decide)) rfl (aB (aA 3) (aB (aA 10) aH)))) (aD (aMn 12 hr (cD aH)) (aD (eV Bd rfl (jY T.range (aP (aCz hr (aA 12)) aY)) (dR (i:=13) bF.nd) (aG (aR8 12 hr (mL (own:=["_law_place"]) (cap:=[("_law_well_here",3),("_law_world_here",12)]) (aC cA) fY rfl rfl (λx h=>bO h) (by decide+kernel) rfl (vic (bT (aA 6))) (λcl C s2 H2 fp=>(bL (i:=0) (show(["_law_place","_law_well_here","_law_world_here"]:List Str).Nodup by decide+kernel) rfl (Bu rfl) (Bz rfl))) (cT (by decide)) (λcl C s2 H2 fp=>(aO c__law_draw (hr.mono (by decide)) rfl (aB (aA 1) (aB (aCz hr (aA 2)) aH)))))))) (aU0 12 (aD (vJ 12 hr (cD aH)) (aD (eV Bd rfl (wN T.range (aP aF (aP (aU bA bM (aA 11) aF) aY))) (dR (i:=13) bF.nd) (aG (vJ 12 hr (aU bA bM (aCz hr (aA 12)) (mL (own:=["_law_place"]) (cap:=[("_law_turn",13)]) (aC cA) fY rfl rfl (λx h=>bO h) (by decide+kernel) rfl (vic (bT (aA 6))) (λcl C s2 H2 fp=>(bL (i:=0) (show(["_law_place","_law_turn"]:List Str).Nodup by decide+kernel) rfl (Bu rfl) (Bz rfl))) (cT (by decide)) (λcl C s2 H2 fp=>(cY (aB (aA 1) (aB (aA 0) aH))))))))) (aRf 12 (aG (iM 12))))))))))))) λE ρ h=>?_;obtain⟨a0,a1,a2,a7,a8,a9,a12,a13,ns,rs,pl,ys,r,rfl,pl40,pdt,yl,yg,r0,r12,q⟩:=h;refine⟨ys,ys,rfl,by omega,by omega,λx h=>h,λzs z1 z2=>?_⟩;refine⟨by rw [Ab];omega,aE4 (g:=λy=>U.n y.1) (α:=Unit) (λy hy k hk=>⟨rfl,hk⟩) ⟨?_,(1:Int)::ys.map (·.1),?_,nofun,λdp dp1 dpm=>⟨_,_,rfl,by decide,.inl ⟨by decide+kernel,?_⟩⟩⟩⟩
 ·show 1+_<=10000;rw [Ab];omega
 ·show [U.ls ([U.n 1]++_)]=_;rw [Aw,Bk];rfl
 have key:∀r:Int,0<=r->r<2->∃M:Int,atI [U.n 9,U.n (10 ^ (9:Int).toNat-1)] r=some (.n M)/\0<M/\M<=999999999:=λr h0 h2=>by
  have:r=0∨r=1:=by omega
  rcases this with rfl|rfl
  ·exact⟨9,rfl,by decide,by decide⟩
  ·exact⟨_,rfl,by decide,by decide⟩
 refine⟨⟨by decide,by decide,by decide⟩,2,rfl,by decide,by decide,λr1 a b=>?_⟩;obtain⟨M,eM,M0,M9⟩:=key r1 a b;refine⟨_,eM,M,rfl,M0,by omega,λr2 c2 d2=>⟨_,_,rfl,by decide,.inl ⟨by decide+kernel,?_⟩⟩⟩;refine⟨ys,rfl,yl,yg,λt t1 t2 t3 t4=>⟨_,_,rfl,by decide,.inl ⟨by decide+kernel,?_⟩⟩⟩;refine⟨[],_,_,rfl,rfl,by decide,by decide+kernel,?_⟩;have dp0:1<=dp:=dpm 1 Ae;have dp3:dp<=3:=by
  rcases List.mem_cons.mp dp1 with rfl|h
  ·decide
  ·obtain⟨y,hy,rfl⟩:=List.mem_map.mp h;exact(yg y hy).1.2.1
 refine .inr ⟨_,_,_,_,rfl,show wH "deep" (wNm.take 8) _ _ from aBy (xs:=wNm.take 8) (u:= .n dp) (k:=5) ⟨by omega,by omega,?_⟩ (by decide+kernel) rfl rfl⟩;refine cC (λl ρ=>∃(k:Nat) (rows:List (List Int)) (x:Sl),l=(Lo k (dp.toNat-k)).map (λi:Nat=>U.n (0+(i:Int)))/\k<=dp.toNat/\rows.length=k/\(∀l∈rows,l.length=pl.length/\∀x∈l,0<=x/\x<2+r2)/\ρ=[a0,a1,a2,.sh .wl,.sh (.ls (ns.map U.n)),.sh (.ls (rs.map Rim.u)),.sh (.ls pl),a7,a8,a9,.sh (.ls (ys.map tkU)),.sh (.n r),.oo (dlO (wNm.take 8) [.ls (ns.map U.n),.ls (rs.map Rim.u),.ls pl,.n r,.ls (zs.map tkU),.n dp,.n (2+r2),tU t] "first" (jC rows)),x]) ?_ ?_ ⟨0,[],_,by rw [La, <-Hg];rfl,Bb _,rfl,nofun,rfl⟩
 ·rintro ρ ⟨k,rows,x,e,hk,rk,hrow,rfl⟩;have ek:k=dp.toNat:=by
   have:=congrArg Cg e;simp at this;omega
  refine⟨_,_,_,_,rfl,rfl,_,_,rfl,by decide,.inl ⟨by decide+kernel,⟨by omega,by omega,by omega,by omega⟩,?_⟩⟩;refine cC (λl ρ=>∃(k:Nat) (x:Sl),l=(Lo k (r.toNat-k)).map (λi:Nat=>U.n (1+(i:Int)))/\k<=r.toNat/\(spU pl k).length<=40*k/\U.dts 30 (spU pl k)/\ρ=[a0,a1,a2,.sh .wl,.sh (.ls (ns.map U.n)),.sh (.ls (rs.map Rim.u)),.sh (.ls pl),a7,a8,a9,.sh (.ls (ys.map tkU)),.sh (.n r),.oo (dkO (wNm.take 9++[("spots":Str)]) ([.ls (ns.map U.n),.ls (rs.map Rim.u),.ls pl,.n r,.ls (zs.map tkU),.n dp,.n (2+r2),tU t,.ls (jC rows)]++[.ls (spU pl k)])),x]) ?_ ?_ ⟨0,_,by rw [La, <-Hg,show(r+1-1)=r by omega];rfl,Bb _,Am _,trivial,rfl⟩
  ·rintro ρ ⟨k',x,e,hk',_,hd,rfl⟩;have:k'=r.toNat:=by
    have:=congrArg Cg e;simp at this;omega
   subst this;exact⟨_,_,rfl,q zs dp _ t rows hd ⟨z1,z2,dp1,dpm,⟨by omega,by omega⟩,t1,t2,t3,t4,by omega,hrow⟩⟩
  ·rintro u l ρ ⟨k',x,e,hk',hl,hd,rfl⟩ ih;have hlt:k'<r.toNat:=by
    have:=congrArg Cg e;simp at this;omega
   rw [show r.toNat-k'=(r.toNat-(k'+1))+1 by omega,Iq,Aw]at e;obtain⟨rfl,rfl⟩:=Bp e;refine .inl ⟨_,_,rfl,show wH "spots" (wNm.take 10) _ _ from aBy (xs:=wNm.take 10) (u:= .ls (spU pl k')) (k:=9) ?_ (by decide+kernel) rfl rfl⟩;refine⟨by omega,eY (h:=λu=> .tp [.n (1+(k':Int)),u]) (λu hu c hc=>hc) ⟨?_,_,_,rfl,by decide,.inr ⟨_,_,_,rfl,rfl,rfl,by decide+kernel,ih _ ⟨k'+1,_,rfl,hlt,?_,?_,by rw [<-rP];rfl⟩⟩⟩⟩
   ·rw [Dy,Ab];omega
   ·rw [<-rP,Ag,Ab];omega
   ·rw [<-rP];exact aJw hd (aF4 _ pdt)
 ·rintro u l ρ ⟨k,rows,x,e,hk,rk,hrow,rfl⟩ ih;have hlt:k<dp.toNat:=by
   have:=congrArg Cg e;simp at this;omega
  rw [show dp.toNat-k=(dp.toNat-(k+1))+1 by omega,Iq,Aw]at e;obtain⟨rfl,rfl⟩:=Bp e;refine⟨_,_,_,rfl,by decide+kernel,by rw [show(jC rows).length=rows.length from Ab ..];omega,by omega,oN (λx=>∃n:Int,x= .n n/\(0<=n/\n<2+r2)) (λu hu c hc=> .inr ⟨_,_,_,_,rfl,show wH "modulus" (wNm.take 8) _ _ from aBy (xs:=wNm.take 8) (u:= .n (2+r2)) (k:=6) ⟨2+r2,rfl,by omega,by omega,λr a b=>hc _ ⟨r,rfl,a,b⟩⟩ (by decide+kernel) rfl rfl⟩) λxs xl xp=>?_⟩;obtain⟨l,rfl,hl⟩:=pull xp;refine ih _ ⟨k+1,rows++[l],.sh (.n (0+(k:Int))),rfl,hlt,by rw [Ag,rk];rfl,λx hx=>(List.mem_append.mp hx).elim (hrow x) λz=>by rw [List.mem_singleton.mp z];exact⟨by rw [Ab]at xl;exact xl,hl⟩,?_⟩;rw [show jC (rows++[l])=jC rows++[.ls (l.map U.n)]from Ay ..];rfl
theorem aJ5:∀(ns:List Int) (a:Int),(∀n∈ns,1<=n)->0<=a->a<=ns.foldl (λa n=>a*n) a
 | [],a,_,_=>Mg a
 |n::ns,a,h,h0=>by
  have h1:=h n Ae;have h2:a<=a*n:=by
   have:=Lk h1 h0
   rwa [Vx]at this
  exact Hb h2 (aJ5 ns (a*n) (λm hm=>h m (Ad _ hm)) (Hb h0 h2))
def PlU (k:Nat) (u:U):Prop:=∃is:List Int,u= .tp (is.map U.n)/\is.length<=k
mutual
theorem aY3:∀(n:Nat) (u:U),U.dt n u->Nw u
 |_,.v _,_=>by unfold Nw;trivial
 |n+1,.tp l,h=>pK n l h
 |n+1,.ls l,h=>pK n l h
theorem pK:∀(n:Nat) (l:List U),U.dts n l->Nws l
 |_,[],_=>by unfold Nws;trivial
 |n,u::l,⟨a,b⟩=>⟨aY3 n u a,pK n l b⟩
end
theorem aIl:∀(l:List U) {k:Nat},(∀u∈l,PlU k u)->U.dts 5 l
 | [],_,_=>trivial
 |u::l,_,h=>by
  obtain⟨is,rfl,_⟩:=h u Ae;exact⟨aGj 4 is,aIl l λu hu=>h u (Ad _ hu)⟩
def aNp (F:Fun K "_law_world" "_law_world" cA f fd) (c__law_well:Cal P w K mg base CX0 2 "_law_well" ["_law_script","_law_k"] (spV (aTd K))) (c__law_lines:Cal P w K mg base CX0 4 "_law_lines" ["_law_well_here"] (spV aIw)) (c__law_take:Cal P w K mg base CX0 4 "_law_take" ["_law_well_here","_law_many"] (spV aL2)) (c__law_draw:Cal P w K mg base CX0 3 "_law_draw" ["_law_well_here","_law_most"] (spV aBw)) (c__law_term:Cal P w K mg base CX0 4 "_law_term" ["_law_well_here","_law_takes"] (spV aH2)) (T:Txt mg):bB P w K mg base CX0 30 f fd ["_law_script","_law_k","_law_most"] (spV (aMt K)):=by
 refine vfn F bF (λcdv A outer s H E hr=>(aD (bD (i:=3) bF.nd (aO c__law_well (hr.mono (by decide)) rfl (aB (aA 0) (aB (aA 1) aH)))) (aMf 3 (aD (aU1 (aO c__law_lines (hr.mono (by decide)) rfl (aB (aA 3) aH)) (aD8 rfl (jW (i:=4) bF.nd (jW (i:=5) bF.nd yO)))) (aD (bD (i:=6) bF.nd (cD (aB (cY aH) aH))) (qI 6 (aD (eV Bd rfl (bT (aA 4)) (dR (i:=7) bF.nd) (aD (bD (i:=8) bF.nd (cD aH)) (aD (eV Bd rfl (bT (aA 6)) (dR (i:=9) bF.nd) (aG (bD (i:=8) bF.nd (aU bA bM (aA 8) (mL (own:=["_law_x"]) (cap:=[("_law_place",9)]) (aC cA) fY rfl rfl (λx h=>bO h) (by decide+kernel) rfl (vic (jY T.range (aP (aA 7) aY))) (λcl C s2 H2 fp=>(bL (i:=0) (show(["_law_x","_law_place"]:List Str).Nodup by decide+kernel) rfl (Bu rfl) (Bz rfl))) (cT (by decide)) (λcl C s2 H2 fp=>(aU bA bM (aA 1) (cY (aB (aA 0) aH))))))))) (qI 8 (aG (bD (i:=6) bF.nd (aA 8))))))) (aD (aJn (i:=10) (own:=["_law_j"]) (cap:=[("_law_well_here",3),("_law_sizes",4)]) bF.nd (aC cA) fY rfl rfl (λx h=>bO h) (by decide+kernel) rfl (vic (jY T.range (aP (bU bC bV (cD (aB aF (aB aF (aB aF (aB aF (aB aF (aB aF aH))))))) (aO c__law_draw (hr.mono (by decide)) rfl (aB (aA 3) (aB aF aH)))) aY))) (λcl C s2 H2 fp=>(bL (i:=0) (show(["_law_j","_law_well_here","_law_sizes"]:List Str).Nodup by decide+kernel) rfl (Bu rfl) (Bz rfl))) (cT (by decide)) (λcl C s2 H2 fp=>(aO c__law_take (hr.mono (by decide)) rfl (aB (aA 1) (aB (bJ aX dO T.len Ek (aP (aA 2) aY)) aH))))) (qI 10 (aD (bD (i:=11) bF.nd (bJ (aLe rfl) aYi T.min boot_min (aP (bU bC bV (cD (aB (aO c__law_draw (hr.mono (by decide)) rfl (aB (aA 3) (aB aF aH))) (aB (aU iC cF aF (aO c__law_draw (hr.mono (by decide)) rfl (aB (aA 3) (aB aF aH)))) aH))) (aO c__law_draw (hr.mono (by decide)) rfl (aB (aA 3) (aB aF aH)))) (aP (aU uW jK (aA 2) (bJ aX dO T.len Ek (aP (aA 6) aY))) aY)))) (suf T c__law_draw c__law_term F cdv A outer s H E hr))))))))))) ?_;rintro _ R ⟨sc,k,mo,rfl,mo1,mo2,q⟩;refine⟨rfl,sc,k,rfl,λa b c=>⟨rfl,λns rs gs el rk=>⟨rfl,?_⟩⟩⟩;have l3:=gs.l3;have l1:=gs.l1;have mn:=gs.mn;refine cC (λl ρ=>∃(ms:List Int) (pl:List U) (x7 x8 x9:Sl),l=ms.map U.n/\(∀n∈ms,1<=n/\n<=9)/\ms.foldl (λa n=>a*n) (pl.length:Int)=qR ns/\1<=pl.length/\(∀u∈pl,PlU (3-ms.length) u)/\(∃ps,pl=ps.map pU/\ms.foldl (λps n=>ps.flatMap (ext n)) ps=aAq ns)/\ms.length<=3/\ρ=[.sh (.op (aDr K sc)),.sh (.n k),.sh (.n mo),.sh .wl,.sh (.ls (ns.map U.n)),.sh (.ls (rs.map Rim.u)),.sh (.ls pl),x7,x8,x9,.no,.no,.no,.no]) ?_ ?_ ⟨ns,[.tp []],_,_,_,rfl,gs.ok,rfl,Am _,λu hu=>⟨[],by rw [List.mem_singleton.mp hu];rfl,Bb _⟩,⟨[[]],rfl,rfl⟩,l3,rfl⟩
 ·rintro ρ ⟨ms,pl,x7,x8,x9,em,_,hp,p1,hpl,⟨ps,epl,eps⟩,_,rfl⟩;obtain rfl:ms=[]:=List.map_eq_nil_iff.mp em.symm;have eps:ps=aAq ns:=eps;rw [eps]at epl;have hp:(pl.length:Int)=qR ns:=hp;have key:∀r:Int,0<=r->r<6->∃n:Nat,atI [U.n 0,U.n 1,U.n 2,U.n 3,U.n 4,U.n 6] r=some (.n (n:Int))/\n<=6:=λr h0 h6=>by
   have:r=0∨r=1∨r=2∨r=3∨r=4∨r=5:=by omega
   rcases this with rfl|rfl|rfl|rfl|rfl|rfl
   ·exact⟨0,rfl,by decide⟩
   ·exact⟨1,rfl,by decide⟩
   ·exact⟨2,rfl,by decide⟩
   ·exact⟨3,rfl,by decide⟩
   ·exact⟨4,rfl,by decide⟩
   ·exact⟨6,rfl,by decide⟩
  refine⟨6,rfl,by decide,by decide,λr0 a0 b0=>?_⟩;obtain⟨n,en,n6⟩:=key r0 a0 b0;refine⟨_,en,by omega,by omega,by rw [fG];omega,oN (λx=>∃y:Tk,x=tkU y/\(vV y/\y.2.length=ns.length)) (λu hu c hc=>⟨ns.length,by rw [Ab],l3,λy h1 h2=>hc _ ⟨y,rfl,h1,h2⟩⟩) λxs xl xp=>?_⟩;obtain⟨ys,rfl,hy⟩:=pull xp;rw [Ab,fG]at xl;have yl:ys.length<=6:=by omega
  refine⟨13,rfl,by decide,by decide,λr1 a1 b1=>⟨3,rfl,by decide,by decide,λr2 a2 b2=>⟨2,rfl,by decide,by decide,λr3 a3 b3=>?_⟩⟩⟩;have key2:∃z:Int,atI [U.n r1,U.n (12-r2)] r3=some (.n z)/\0<=z/\z<=12:=by
   have:r3=0∨r3=1:=by omega
   rcases this with rfl|rfl
   ·exact⟨r1,rfl,by omega,by omega⟩
   ·exact⟨12-r2,rfl,by omega,by omega⟩
  obtain⟨z,ez,z0,z12⟩:=key2;refine⟨_,ez,?_⟩;refine⟨⟨by omega,by omega⟩,?_⟩;have hL:(1:Int)<=pl.length:=by omega
  have hd:mo / pl.length*pl.length<=mo:=Int.ediv_mul_le mo (by omega);have hd0:0<=mo / pl.length:=Int.ediv_nonneg (by omega) (by omega);have rr:∃r:Int,(if mo / pl.length<z then mo / pl.length else z)=r/\0<=r/\r<=12/\r*qR ns<=120:=by
   refine⟨_,rfl,?_,?_,?_⟩
   ·split<;>omega
   ·split<;>omega
   ·rw [<-hp];split
    ·omega
    ·rename_i h;have:z*pl.length<=mo / pl.length*pl.length:=Ld (by omega) (by omega);omega
  obtain⟨r,er,r0',r12,rp⟩:=rr;have yg:∀y∈ys,vV y/\1<=y.2.length/\y.2.length<=3:=λy h=>by have:=hy y h;exact⟨this.1,by omega,by omega⟩
  refine⟨_,_,_,_,_,_,_,_,ns,rs,pl,ys,r,by rw [<-er];rfl,by omega,aIl pl hpl,yl,yg,r0',r12,λzs dp m t ls sd dr=>⟨⟨pK 5 _ (vI ns),pK 5 _ (aIs rs),pK 5 _ (aIl pl hpl),trivial,pK 7 _ (aH7 zs),trivial,trivial,trivial,pK 6 _ (aJi ls),pK 30 _ sd,trivial⟩,?_⟩⟩;show R (.sh (wU ns rs pl r zs dp m t ls (spU pl r.toNat)));rw [epl];refine q ns rs r zs dp m t ls ⟨⟨gs,el,rk,by have:=dr.hd;omega,dr.ok,by have:=dr.pr;omega,⟨by omega,λx hx=>(hy x ((dr.rw_ x).mpr hx)).2,ys,yl,λx hx=>(dr.rw_ x).mpr hx⟩,dr.m2,⟨r0',r12⟩,rp,λys' hy'=>?_,?_,λl hl=>?_⟩,by have:=dr.pr;omega,dr.so,λx=>(dr.mem x).trans (dr.rw_ x)⟩
  ·rw [dr.ll];have mem:∀y,y∈ys'↔y∈ys:=λy=>(hy'.2 y).trans (dr.rw_ y).symm;have d1:=dr.d1;have dm:=dr.dm;by_cases e:ys'=[]
   ·have:ys=[]:=List.eq_nil_iff_forall_not_mem.mpr λy h=>by
     have:=(mem y).mpr h;rw [e]at this;cases this
    subst this;have:dp=1:=List.mem_singleton.mp d1;rw [e,this];rfl
   ·refine(aMh (λy h=>?_) ?_ λa ha=>?_).symm
    ·have:=(yg y ((mem y).mp h)).1.1;omega
    ·rcases List.mem_cons.mp d1 with e1|h
     ·obtain⟨y,l,rfl⟩:=List.exists_cons_of_ne_nil e;have h1:=(mem y).mp Ae;have h2:=(yg y h1).1.1;have h3:=dm y.1 (Ad _ (List.mem_map.mpr ⟨y,h1,rfl⟩));exact List.mem_map.mpr ⟨y,Ae,by show y.1=dp;omega⟩
     ·obtain⟨y,h1,rfl⟩:=List.mem_map.mp h;exact List.mem_map.mpr ⟨y,(mem y).mpr h1,rfl⟩
    ·obtain⟨y,h1,rfl⟩:=List.mem_map.mp ha;exact dm y.1 (Ad _ (List.mem_map.mpr ⟨y,(mem y).mp h1,rfl⟩))
  ·have h:=dr.ll;have d1:=dr.d1;rcases List.mem_cons.mp d1 with e1|h
   ·omega
   ·obtain⟨y,h1,rfl⟩:=List.mem_map.mp h;have:=(yg y h1).1.2.1;omega
  ·obtain⟨h1,h2⟩:=dr.lo l hl;exact⟨by rw [h1];exact hp,by omega,h2⟩
 ·rintro u l ρ ⟨ms0,pl,x7,x8,x9,em,hm,hp,p1,hpl,⟨ps,epl,eps⟩,ml,rfl⟩ ih;cases ms0 with
  |nil=>cases em
  |cons n ms=>
   obtain⟨rfl,rfl⟩:=Bp em;obtain⟨n1,n9⟩:=hm n Ae;have hm':∀x∈ms,1<=x/\x<=9:=λx hx=>hm x (Ad _ hx);have hp':ms.foldl (λa n=>a*n) ((pl.length:Int)*n)=qR ns:=hp;have ge:=aJ5 ms ((pl.length:Int)*n) (λx hx=>(hm' x hx).1) (Jw (by omega) (by omega));have ml':ms.length+1<=3:=ml;show lY (kZ 9) _ _ pl _;refine cC (λl2 ρ=>∃(lg:List U) (x9:Sl),ρ=[.sh (.op (aDr K sc)),.sh (.n k),.sh (.n mo),.sh .wl,.sh (.ls (ns.map U.n)),.sh (.ls (rs.map Rim.u)),.sh (.ls pl),.sh (.n n),.ow lg,x9,.no,.no,.no,.no]/\(∀u∈l2,PlU (3-(ms.length+1)) u)/\(lg.length:Int)+l2.length*n=pl.length*n/\(∀u∈lg,PlU (3-ms.length) u)/\∃qs rest:List (List Int),lg=qs.map pU/\l2=rest.map pU/\qs++rest.flatMap (ext n)=ps.flatMap (ext n)) ?_ ?_ ⟨[],_,rfl,hpl,by simp,nofun,[],ps,rfl,epl,rfl⟩
   ·rintro ρ ⟨lg,x9,rfl,_,hl,hg,qs,rest,eq,er,ee⟩;obtain rfl:rest=[]:=List.map_eq_nil_iff.mp er.symm;rw [Qt,Bg]at ee;have hl:(lg.length:Int)=pl.length*n:=by simpa using hl
    refine ih _ ⟨ms,lg,_,_,_,rfl,hm',by rw [hl];exact hp',?_,hg,⟨qs,eq,by rw [ee];exact eps⟩,by omega,rfl⟩;have:(1:Int)*1<=pl.length*n:=Int.mul_le_mul (by omega) n1 (by decide) (by omega);omega
   ·rintro u2 l2 ρ ⟨lg,x9,rfl,h2,hl,hg,qs,rest0,eq,er,ee⟩ ih2;obtain⟨is,rest,rfl⟩:∃is rest,rest0=is::rest:=by
     cases rest0 with
     |nil=>cases er
     |cons a b=>exact⟨a,b,rfl⟩
    obtain⟨e2,er2⟩:=Bp er;subst e2;obtain⟨is',ei,il⟩:=h2 _ Ae;have il:is.length<=3-(ms.length+1):=by
     have:=congrArg (λu=>match u with|U.tp l=>l.length|_=>0) ei;simp [pU]at this;omega
    rw [Ah]at hl;have hl':(lg.length:Int)+n+l2.length*n=pl.length*n:=by
     rw [<-hl];have:((l2.length+1:Nat):Int)*n=l2.length*n+n:=by rw [Jm,Py];simp
     omega
    have h20:0<=(l2.length:Int)*n:=Jw (by omega) (by omega);have ex:(qK 0 n.toNat).map (λu=>U.tp (is.map U.n++[u]))=(ext n is).map pU:=by
     unfold qK ext;rw [Bk,Bk];refine Ju λi _=>?_;show U.tp _=U.tp _;rw [Ay];rfl
    have exl:((ext n is).map pU).length=n.toNat:=by rw [<-ex,Ab,fG]
    refine⟨by omega,by omega,by rw [fG];omega,eY (h:=λu=>U.tp (is.map U.n++[u])) (λu hu c hc=>⟨by rw [Ab];show _+1<=10000;omega,hc⟩) ⟨?_,?_⟩⟩
    ·show lg.length+([]++_).length<=10000;rw [Dy,ex,exl];omega
    ·rw [Dy,ex];refine ih2 _ ⟨lg++(ext n is).map pU,_,rfl,λu hu=>h2 u (Ad _ hu),?_,λu hu=>(List.mem_append.mp hu).elim (hg u) λhu=>?_,qs++ext n is,rest,by rw [Ay,eq],er2,by rw [Bi];exact ee⟩
     ·rw [Ag,exl];omega
     ·obtain⟨p,hp,rfl⟩:=List.mem_map.mp hu;refine⟨p,rfl,?_⟩;obtain⟨i,_,rfl⟩:=List.mem_map.mp hp;rw [Ag];show _+1<=_;omega
def byR:Rim->Int->Int->Option Int
 | .fixed _,s,x=>if 0<=x/\x<s then some x else none
 | .mirror,s,x=>if 0<=x/\x<s then some x else some (mir s x)
 | .round,s,x=>if 0<=x/\x<s then some x else some (x % s)
def oU:Option Int->U
 |none=> .no
 |some i=> .n i
def aZd:Fv:=λus R=>∃(r:Rim) (s x:Int),us=[r.u,.n s,.n x]/\0<s/\s<=9/\R (.sh (oU (byR r s x)))
def wV:aL ["rim","size","number"] ["rim","size","number"] (aC lB):=⟨rfl,rfl,rfl,by decide+kernel,rfl,by decide+kernel,by decide+kernel⟩
def aUw (F:Fun K "number_by_rim" "number_by_rim" lB f fd) (c_mirrored:Cal P w K mg base CX0 1 "mirrored" ["size","number"] (spV aYz)):bB P w K mg base CX0 2 f fd ["rim","size","number"] (spV aZd):=by
 refine vfn F wV (λcdv A outer s H E hr=>(aD (cW (wB uT vW cF cF aF (aA 2) (aA 1)) (aG (iM 2)) bK) (aD (cW (bW (lA (huD hr)) jH (bU bC bV (aA 0) aF) bQ) (aG (aV (aU nZ jK (aA 2) (aA 1)))) bK) (aD (cW (bW (lA (huD hr)) jH (bU bC bV (aA 0) aF) bQ) (aG (aV (aO c_mirrored (hr.mono (by decide)) rfl (aB (aA 1) (aB (aA 2) aH))))) bK) (aG (aV pX)))))) ?_;rintro _ R ⟨r,s,x,rfl,h1,h2,q⟩;refine⟨rfl,?_⟩;have fin:(0<=x/\x<s)->R (.sh (.n x)):=λh=>by
  have:byR r s x=some x:=by cases r<;>exact if_pos h
  rw [this]at q;exact q
 have no:∀{k:Bool},k=false->¬k=true:=λh z=>by rw [h]at z;cases z
 refine⟨λh=>⟨λh'=>fin ⟨of_decide_eq_true h,of_decide_eq_true h'⟩,λh'=>?_⟩,λh=>⟨nofun,λ_=>?_⟩⟩
 all_goals
  have nn:¬(0<=x/\x<s):=λz=>by first|exact absurd z.2 (of_decide_eq_false h')|exact absurd z.1 (of_decide_eq_false h)
  clear fin;cases r with
  |fixed c=>
   rw [show byR (.fixed c) s x=none from if_neg nn]at q;exact⟨_,rfl,trivial,trivial,λz=>absurd z (no (by decide+kernel)),λ_=>⟨_,rfl,trivial,trivial,λz=>absurd z (no (by decide+kernel)),λ_=>q⟩⟩
  |mirror=>
   rw [show byR .mirror s x=some (mir s x)from if_neg nn]at q;exact⟨_,rfl,trivial,trivial,λz=>absurd z (no (by decide+kernel)),λ_=>⟨_,rfl,trivial,trivial,λ_=>⟨s,x,rfl,h1,by omega,q⟩,λz=>absurd (show _=true by decide+kernel) (no z)⟩⟩
  |round=>
   rw [show byR .round s x=some (x % s)from if_neg nn]at q;exact⟨_,rfl,trivial,trivial,λ_=>⟨h1,q⟩,λz=>absurd (show _=true by decide+kernel) (no z)⟩
def Rim.c:Rim->Int
 | .fixed c=>c
 |_=>0
def bes:List Int->List Rim->List Int->List Int->Except Int (List Int)
 |n::ns,r::rs,i::is,s::ss=>match byR r n (i+s)with
  |none=> .error r.c
  |some x=>match bes ns rs is ss with
   | .error c=> .error c
   | .ok l=> .ok (x::l)
 |_,_,_,_=> .ok []
def aZy:Except Int (List Int)->U
 | .error c=> .tp [.s "rim",.n c]
 | .ok l=> .tp [.s "place",.tp (l.map U.n)]
def pre (xs:List Int):Except Int (List Int)->Except Int (List Int)
 | .error c=> .error c
 | .ok l=> .ok (xs++l)
def aW6 (C:Addr):Fv:=λus R=>∃(ns:List Int) (rs:List Rim) (is ss:List Int),us=[grU C ns rs,.tp (is.map U.n),.tp (ss.map U.n)]/\lJ ns/\rs.length=ns.length/\is.length=ns.length/\ss.length=ns.length/\R (.sh (aZy (bes ns rs is ss)))
def fM:aL ["self","place","steps","numbers","line","rim","number"] ["self","place","steps"] (aC nQ):=⟨rfl,rfl,rfl,by decide+kernel,rfl,by decide+kernel,by decide+kernel⟩
def aUd (F:Fun K "beside" "Grid.beside" nQ f fd) (cG:Cfl K C ["sizes","rims"]) (c_number_by_rim:Cal P w K mg base CX0 2 "number_by_rim" ["rim","size","number"] (spV aZd)) (T:Txt mg):bB P w K mg base CX0 3 f fd ["self","place","steps"] (spV (aW6 C)):=by
 refine vfn F fM (λcdv A outer s H E hr=>(aD (bD (i:=3) fM.nd (cD aH)) (aD (eV Bd rfl (aJl T.enumerate (aB (dI cG (aA 0)) aH)) (aD8 rfl (jW (i:=4) fM.nd (jW (i:=5) fM.nd yO))) (aD (bD (i:=6) fM.nd (aO c_number_by_rim (hr.mono (by decide)) rfl (aB (aA 5) (aB (bU bC bV (dI cG (aA 0)) (aA 4)) (aB (aU bA bM (bU bC bV (aA 1) (aA 4)) (bU bC bV (aA 2) (aA 4))) aH))))) (aD (cW (aVg (aA 6)) (aG (aV (cY (aB bQ (aB (bU bC bV (aA 5) aF) aH))))) bK) (aG (aAf 3 (aA 6)))))) (aG (aV (cY (aB bQ (aB (dU (xF rfl) aEn T.tuple Mb (aP (aA 3) aY)) aH)))))))) ?_;rintro _ R ⟨ns,rs,is,ss,rfl,gs,el,il,sl,q⟩;refine⟨rfl,rfl,.inr ⟨by decide+kernel,.inl ⟨rfl,?_⟩⟩⟩;refine cC (λl ρ=>∃(k:Nat) (qs:List Rim) (xs:List Int) (x y z:Sl),l=(qs.map Rim.u |>.zipIdx k).map (λx=> .tp [.n (x.2:Nat),x.1])/\ρ=[.sh (grU C ns rs),.sh (.tp (is.map U.n)),.sh (.tp (ss.map U.n)),.ow (xs.map U.n),x,y,z]/\k+qs.length=ns.length/\xs.length=k/\bes ns rs is ss=pre xs (bes (ns.drop k) qs (is.drop k) (ss.drop k))) ?_ ?_ ⟨0,rs,[],_,_,_,rfl,rfl,by omega,rfl,by rw [Gv,Gv,Gv];cases bes ns rs is ss<;>rfl⟩
 ·rintro ρ ⟨k,qs,xs,x,y,z,e,rfl,hk,_,hb⟩;have:qs=[]:=by
   cases qs with
   |nil=>rfl
   |cons _ _=>cases e
  subst this;have h0:ns.drop k=[]:=List.drop_eq_nil_iff.mpr (by rw [Be]at hk;omega);rw [hb,h0]at q;have:bes [] [] (is.drop k) (ss.drop k)= .ok []:=rfl;rw [this]at q;have q:R (.sh (.tp [.s "place",.tp ((xs++[]).map U.n)])):=q;rw [Bg]at q;exact q
 ·rintro u l ρ ⟨k,qs,xs,x,y,z,e,rfl,hk,xk,hb⟩ ih;match qs,e,hk,hb with
  |r::qs,e,hk,hb=>
   cases e;rw [Ah]at hk;have hn:k<ns.length:=by omega
   have hi:k<is.length:=by omega
   have hs:k<ss.length:=by omega
   have ok:=gs.ok _ (Eb hn);have at_:∀{l:List Int} (h:k<l.length),atI (l.map U.n) (k:Int)=some (U.n l[k]):=λ{l} h=>sO (by rw [Az,Ak h];rfl);rw [Bh hn,Bh hi,Bh hs]at hb;have hb':bes ns rs is ss=pre xs (match byR r ns[k] (is[k]+ss[k])with
    |none=> .error r.c
    |some x=>match bes (ns.drop (k+1)) qs (is.drop (k+1)) (ss.drop (k+1))with
     | .error c=> .error c
     | .ok l=> .ok (x::l)):=hb
   refine⟨rfl,rfl,.inl ⟨rfl,_,at_ hn,_,at_ hi,_,at_ hs,r,ns[k],is[k]+ss[k],rfl,by omega,by omega,?_⟩⟩;cases hy:byR r ns[k] (is[k]+ss[k])with
   |none=>
    rw [hy]at hb';have hb':bes ns rs is ss= .error r.c:=hb';rw [hb']at q;refine⟨λ_=>?_,nofun⟩;cases r with
    |fixed c=>exact⟨_,rfl,q⟩
    |mirror=>exact absurd hy (by simp only [byR];split<;>nofun)
    |round=>exact absurd hy (by simp only [byR];split<;>nofun)
   |some v=>
    rw [hy]at hb';refine⟨nofun,λ_=>?_⟩;refine⟨?_,ih _ ⟨k+1,qs,xs++[v],_,_,_,rfl,by rw [Ay];rfl,by omega,by rw [Ag,xk];rfl,?_⟩⟩
    ·rw [Ab,xk];have:=gs.l3;omega
    ·rw [hb'];cases bes (ns.drop (k+1)) qs (is.drop (k+1)) (ss.drop (k+1))with
     |error c=>rfl
     |ok l=>show Qi _=Qi _;rw [Bi];rfl
variable {CG CJ:Addr}
def whr (ns:List Int) (rs:List Rim) (q y:Tk):U:=match bes ns rs q.2 y.2 with
 | .error c=> .tp [.s "rim",.n c]
 | .ok l=>if 0<q.1-y.1 then .tp [.s "spot",tkU (q.1-y.1,l)]else .tp [.s "first",tkU (q.1-y.1,l)]
def aO5 (N:Cn) (CG CJ:Addr):Fv:=λus R=>∃ns rs t ys m r ls,∃q y:Tk,us=[aEb N CG CJ ns rs t ys m r ls,tkU q,tkU y]/\lJ ns/\rs.length=ns.length/\q.2.length=ns.length/\y.2.length=ns.length/\R (.sh (whr ns rs q y))
def pB:aL ["self","spot","take","beside","round_at"] ["self","spot","take"] (aC rH):=⟨rfl,rfl,rfl,by decide+kernel,rfl,by decide+kernel,by decide+kernel⟩
def aM8 (F:Fun K "where" "Job.where" rH f fd) (cJ:Cfl K CJ ["taken","grid","term","modulus","rounds","first"]) (D_beside:Dis P w K mg base CX0 3 (·=CG) "beside" ["self","place","steps"] λ_=>spV (aW6 CG)) (T:Txt mg):bB P w K mg base CX0 4 f fd ["self","spot","take"] (spV (aO5 N CG CJ)):=by
 refine vfn F pB (λcdv A outer s H E hr=>(aD (bD (i:=3) pB.nd (aEg (dI cJ (aA 0)) D_beside (hr.mono (by decide)) (aB (bU bC bV (aA 1) aF) (aB (bU bC bV (aA 2) aF) aH)))) (aD (cW (bW (lA (huD hr)) jH (bU bC bV (aA 3) aF) bQ) (aG (iM 3)) bK) (aD (bD (i:=4) pB.nd (aU iC cF (bU bC bV (aA 1) aF) (bU bC bV (aA 2) aF))) (aD (cW (bW tE cF (aA 4) aF) (aG (aV (cY (aB bQ (aB (cY (aB (aA 4) (aB (bU bC bV (aA 3) aF) aH))) aH))))) bK) (aG (aV (cY (aB bQ (aB (cY (aB (aA 4) (aB (bU bC bV (aA 3) aF) aH))) aH)))))))))) ?_;rintro _ R ⟨ns,rs,t,ys,m,r,ls,q0,y,rfl,gs,el,ql,yl,q⟩;have no:∀{k:Bool},k=false->¬k=true:=λh z=>by rw [h]at z;cases z
 refine⟨rfl,rfl,.inr ⟨by decide+kernel,.inl ⟨rfl,rfl,rfl,_,rfl,_,rfl,ns,rs,q0.2,y.2,rfl,gs,el,ql,yl,?_⟩⟩⟩;unfold whr at q;cases hb:bes ns rs q0.2 y.2 with
 |error c=>
  rw [hb]at q;exact⟨_,rfl,trivial,trivial,λ_=>q,λz=>absurd (show _=true by decide+kernel) (no z)⟩
 |ok l=>
  rw [hb]at q;refine⟨_,rfl,trivial,trivial,λz=>absurd z (no (by decide+kernel)),λ_=>⟨_,rfl,_,rfl,λz=>?_,λz=>?_⟩⟩
  ·have q:R (.sh (if 0<q0.1-y.1 then .tp [.s "spot",tkU (q0.1-y.1,l)]else .tp [.s "first",tkU (q0.1-y.1,l)])):=q;rw [if_pos (of_decide_eq_true z)]at q;exact⟨_,rfl,q⟩
  ·have q:R (.sh (if 0<q0.1-y.1 then .tp [.s "spot",tkU (q0.1-y.1,l)]else .tp [.s "first",tkU (q0.1-y.1,l)])):=q;rw [if_neg (of_decide_eq_false z)]at q;exact⟨_,rfl,q⟩
def rdU (ns:List Int) (rs:List Rim) (q y:Tk):U:= .tp [tkU y,whr ns rs q y]
def aMv (N:Cn) (CG CJ:Addr):Fv:=λus R=>∃ns rs t ys m r ls,∃q:Tk,us=[aEb N CG CJ ns rs t ys m r ls,tkU q]/\lJ ns/\rs.length=ns.length/\q.2.length=ns.length/\(∀y∈ys,y.2.length=ns.length)/\ys.length<=17/\R (.ow (ys.map (rdU ns rs q)))
abbrev zM:List Str:=["self","spot"]
def xX:aL ["self","spot"] ["self","spot"] (aC iK):=⟨rfl,rfl,rfl,by decide+kernel,rfl,by decide+kernel,by decide+kernel⟩
def aPk (F:Fun K "reads_of" "Job.reads_of" iK f fd) (cJ:Cfl K CJ ["taken","grid","term","modulus","rounds","first"]) (D_where:Dis P w K mg base CX0 4 (·=CJ) "where" ["self","spot","take"] λ_=>spV (aO5 N CG CJ)) (T:Txt mg):bB P w K mg base CX0 5 f fd ["self","spot"] (spV (aMv N CG CJ)):=by
 refine vfn F xX (λcdv A outer s H E hr=>(aG (aV (mL (own:=["take"]) (cap:=[("self",0),("spot",1)]) (aC iK) zM rfl rfl (λx h=>bO h) (by decide+kernel) rfl (vic (bT (dI cJ (aA 0)))) (λcl C s2 H2 fp=>(bL (i:=0) (show(["take","self","spot"]:List Str).Nodup by decide+kernel) rfl (Bu rfl) (Bz rfl))) (cT (by decide)) (λcl C s2 H2 fp=>(cY (aB (aA 0) (aB (aEg (aA 1) D_where (hr.mono (by decide)) (aB (aA 2) (aB (aA 0) aH))) aH)))))))) ?_;rintro _ R ⟨ns,rs,t,ys,m,r,ls,q0,rfl,gs,el,ql,yl,yn,q⟩;exact⟨rfl,rfl,.inl ⟨rfl,by rw [Ab];omega,aE4 (α:=Unit) (g:=rdU ns rs q0) (λy hy k hk=>⟨rfl,rfl,ns,rs,t,ys,m,r,ls,q0,y,rfl,gs,el,ql,yl y hy,hk⟩) q⟩⟩
def jJ (ns:List Int) (rs:List Rim) (q y:Tk):Option Tk:=match bes ns rs q.2 y.2 with
 | .error _=>none
 | .ok l=>if 0<q.1-y.1 then some (q.1-y.1,l)else none
def aW3 (ns:List Int) (rs:List Rim) (ys:List Tk) (q:Tk) (zs:List Tk):Prop:=zs.Pairwise (λx y=>mO x y=true)/\∀z,z∈zs↔z∈ys.filterMap (jJ ns rs q)
def aEe (N:Cn) (CG CJ:Addr):Fv:=λus R=>∃ns rs t ys m r ls,∃q:Tk,us=[aEb N CG CJ ns rs t ys m r ls,tkU q]/\lJ ns/\rs.length=ns.length/\q.2.length=ns.length/\(∀y∈ys,y.2.length=ns.length)/\ys.length<=17/\∀zs,aW3 ns rs ys q zs->R (.ow (zs.map tkU))
def aRx {g:Tk->U} {h:Tk->Option Tk} {f:U->(Option U->Prop)->Prop} {Q:List U->Prop} (hf:∀y∈ys,∀k:Option U->Prop,k ((h y).map tkU)->f (g y) k) (hq:Q ((ys.filterMap h).map tkU)):gD f (ys.map g) [] Q:=by
 have key:∀(zs:List Tk) (acc:List U),(∀y∈zs,∀k:Option U->Prop,k ((h y).map tkU)->f (g y) k)->Q (acc++(zs.filterMap h).map tkU)->gD f (zs.map g) acc Q:=by
  intro zs;induction zs with
  |nil=>exactλacc _ q=>by rw [List.filterMap_nil,Dn,Bg]at q;exact q
  |cons z zs ih=>
   intro acc hf q;refine hf z Ae _ ?_;cases hz:h z with
   |none=>
    rw [List.filterMap_cons_none hz]at q;exact ih _ (λy hy=>hf y (Ad _ hy)) q
   |some x=>
    rw [Nd hz]at q;exact ih _ (λy hy=>hf y (Ad _ hy)) (by rw [Bi];exact q)
 exact key ys [] hf hq
abbrev aH8:List Str:=["job","spot"]
def aGg:aL ["job","spot"] ["job","spot"] (aC pL):=⟨rfl,rfl,rfl,by decide+kernel,rfl,by decide+kernel,by decide+kernel⟩
def aNl (F:Fun K "leans_of" "leans_of" pL f fd) (D_reads_of:Dis P w K mg base CX0 5 (·=CJ) "reads_of" ["self","spot"] λ_=>spV (aMv N CG CJ)) (T:Txt mg):bB P w K mg base CX0 6 f fd ["job","spot"] (spV (aEe N CG CJ)):=by
 refine vfn F aGg (λcdv A outer s H E hr=>(aG (aV (aDm hr rfl T.sorted T.set (aP (aHv (own:=["take","where"]) (cap:=[]) (aC pL) aH8 rfl rfl (λx h=>bO h) (by decide+kernel) rfl (vic (bT (aEg (aA 0) D_reads_of (hr.mono (by decide)) (aB (aA 1) aH)))) (λcl C s2 H2 fp=>(aDu rfl (mC (bL (i:=0) (show(["take","where"]:List Str).Nodup by decide+kernel) rfl (Bu rfl) (Bz rfl)) (mC (bL (i:=1) (show(["take","where"]:List Str).Nodup by decide+kernel) rfl (Bu rfl) (Bz rfl)) yM)))) (aHp (is:=[0,1]) rfl (by decide)) (λcl C s2 H2 fp=>(bW (lA (huD hr)) jH (bU bC bV (aA 1) aF) bQ)) (λcl C s2 H2 fp=>(bU bC bV (aA 1) aF))) aY))))) ?_;rintro _ R ⟨ns,rs,t,ys,m,r,ls,q0,rfl,gs,el,ql,yl,yn,q⟩;have no:∀{k:Bool},k=false->¬k=true:=λh z=>by rw [h]at z;cases z
 have yes:∀{k:Bool} {p:Prop},k=true->k=false->p:=λh z=>by rw [h]at z;cases z
 refine⟨rfl,rfl,rfl,ns,rs,t,ys,m,r,ls,q0,rfl,gs,el,ql,yl,yn,by rw [Ab];omega,?_⟩;refine aRx (g:=rdU ns rs q0) (h:=jJ ns rs q0) (λy hy k hk=>?_) ?_
 ·refine⟨rfl,?_⟩;unfold jJ at hk;show gIx (whr ns rs q0 y) (.n 0) _;unfold whr;cases hb:bes ns rs q0.2 y.2 with
  |error c=>
   rw [hb]at hk;exact⟨_,rfl,trivial,trivial,λz=>absurd z (no (by decide+kernel)),λ_=>hk⟩
  |ok l=>
   rw [hb]at hk;by_cases hp:0<q0.1-y.1
   ·have hk:k ((if 0<q0.1-y.1 then some (q0.1-y.1,l)else none:Option Tk).map tkU):=hk;rw [if_pos hp]at hk;simp only [if_pos hp];exact⟨_,rfl,trivial,trivial,λ_=>⟨_,rfl,hk⟩,λz=>yes (by decide+kernel) z⟩
   ·have hk:k ((if 0<q0.1-y.1 then some (q0.1-y.1,l)else none:Option Tk).map tkU):=hk;rw [if_neg hp]at hk;simp only [if_neg hp];exact⟨_,rfl,trivial,trivial,λz=>absurd z (no (by decide+kernel)),λ_=>hk⟩
 ·have hl:(ys.filterMap (jJ ns rs q0)).length<=17:=Cp (List.length_filterMap_le _ _) yn;exact⟨_,_,rfl,by omega,by omega,λx h=>h,λzs h1 h2=>q zs ⟨h1,h2⟩⟩
def aS3:Fv:=λus R=>∃(ps:List (List Int)) (n:Int),us=[.ls (ps.map pU),.n n]/\0<=n/\n<=9/\(ps.flatMap (ext n)).length<=1000/\(∀p∈ps,p.length<=3)/\R (.ow ((ps.flatMap (ext n)).map pU))
def lN:aL ["places","size","longer","place","number"] ["places","size"] (aC rA):=⟨rfl,rfl,rfl,by decide+kernel,rfl,by decide+kernel,by decide+kernel⟩
def aRg (F:Fun K "with_line" "with_line" rA f fd) (T:Txt mg):bB P w K mg base CX0 1 f fd ["places","size"] (spV aS3):=by
 refine vfn F lN (λcdv A outer s H E hr=>(aD (bD (i:=2) lN.nd (cD aH)) (aD (eV Bd rfl (bT (aA 0)) (dR (i:=3) lN.nd) (aG (eV Bd rfl (jY T.range (aP (aA 1) aY)) (dR (i:=4) lN.nd) (aG (aAf 2 (aU bA bM (aA 3) (cY (aB (aA 4) aH)))))))) (aG (iM 2))))) ?_;rintro _ R ⟨ps,n,rfl,n0,n9,hl,hp,q⟩;refine⟨rfl,?_⟩;show lY (kZ 3) _ _ (ps.map pU) _;refine cC (λl ρ=>∃(qs rest:List (List Int)) (x y:Sl),l=rest.map pU/\ρ=[.sh (.ls (ps.map pU)),.sh (.n n),.ow (qs.map pU),x,y]/\(∀p∈rest,p.length<=3)/\qs++rest.flatMap (ext n)=ps.flatMap (ext n)) ?_ ?_ ⟨[],ps,_,_,rfl,rfl,hp,rfl⟩
 ·rintro ρ ⟨qs,rest,x,y,e,rfl,_,ee⟩;obtain rfl:rest=[]:=List.map_eq_nil_iff.mp e.symm;rw [Qt,Bg]at ee;rw [<-ee]at q;exact q
 ·rintro u l ρ ⟨qs,rest0,x,y,e,rfl,h3,ee⟩ ih;cases rest0 with
  |nil=>cases e
  |cons p rest=>
   obtain⟨rfl,rfl⟩:=Bp e;have p3:=h3 p Ae;refine⟨by omega,by omega,?_⟩;refine cC (λl ρ=>∃(js:List Nat) (qs':List (List Int)) (y:Sl),l=js.map (λi:Nat=>U.n (0+(i:Int)))/\ρ=[.sh (.ls (ps.map pU)),.sh (.n n),.ow (qs'.map pU),.sh (pU p),y]/\qs'++js.map (λi:Nat=>p++[0+(i:Int)])=qs++ext n p) ?_ ?_ ⟨Bq n.toNat,qs,_,rfl,rfl,rfl⟩
   ·rintro ρ ⟨js,qs',y,e,rfl,e2⟩;obtain rfl:js=[]:=List.map_eq_nil_iff.mp e.symm;rw [Dn,Bg]at e2;exact ih _ ⟨qs',rest,_,_,rfl,rfl,λp hp=>h3 p (Ad _ hp),by rw [e2,Bi];exact ee⟩
   ·rintro u l ρ ⟨js0,qs',y,e,rfl,e2⟩ ih2;cases js0 with
    |nil=>cases e
    |cons j js=>
     obtain⟨rfl,rfl⟩:=Bp e;have l2:=congrArg Cg e2;have l3:=congrArg Cg ee;simp only [Ag,Kl,Ab,Ah]at l2 l3;refine⟨by rw [Ab];omega,by rw [Ab];show _+1<=10000;omega,?_⟩;have e3:(qs'.map pU++[U.tp (p.map U.n++[U.n (0+(j:Int))])])=(qs'++[p++[0+(j:Int)]]).map pU:=by
      rw [Ay];show _=_++[U.tp ((p++[0+(j:Int)]).map U.n)];rw [Ay];rfl
     exact ih2 _ ⟨js,qs'++[p++[0+(j:Int)]],.sh (.n (0+(j:Int))),rfl,by rw [<-e3];rfl,by rw [Bi];exact e2⟩
theorem aCd:∀(ms:List Int) (ps:List (List Int)),(∀n∈ms,1<=n)->ps.length<=(ms.foldl (λps n=>ps.flatMap (ext n)) ps).length
 | [],_,_=>Am _
 |n::ms,ps,h=>by
  refine Cp ?_ (aCd ms (ps.flatMap (ext n)) λm hm=>h m (Ad _ hm));have h1:=h n Ae;have el:∀p,(ext n p).length=n.toNat:=λp=>by unfold ext;rw [Ab,Df]
  clear h;induction ps with
  |nil=>exact Bb _
  |cons p ps ih=>
   rw [Kl,Ag,el,Ah];omega
def aS7 (C:Addr):Fv:=λus R=>∃ns rs,us=[grU C ns rs]/\lJ ns/\(aAq ns).length<=40/\∀s,s= .ow (plU ns)∨s= .sh (.ls (plU ns))->R s
def eQ:aL ["self","places","size"] ["self"] (aC iT):=⟨rfl,rfl,rfl,by decide+kernel,rfl,by decide+kernel,by decide+kernel⟩
def aRy (F:Fun K "all_places" "Grid.all_places" iT f fd) (cG:Cfl K C ["sizes","rims"]) (c_with_line:Cal P w K mg base CX0 1 "with_line" ["places","size"] (spV aS3)) (T:Txt mg):bB P w K mg base CX0 2 f fd ["self"] (spV (aS7 C)):=by
 refine vfn F eQ (λcdv A outer s H E hr=>(aD (bD (i:=1) eQ.nd (cD (aB (cY aH) aH))) (aD (eV Bd rfl (bT (dI cG (aA 0))) (dR (i:=2) eQ.nd) (qI 1 (aG (bD (i:=1) eQ.nd (aO c_with_line (hr.mono (by decide)) rfl (aB (aA 1) (aB (aA 2) aH))))))) (aG (iM 1))))) ?_;rintro _ R ⟨ns,rs,rfl,gs,hl,q⟩;refine⟨rfl,rfl,.inl ⟨rfl,?_⟩⟩;show lY (kZ 2) _ _ (ns.map U.n) _;have l3:=gs.l3;refine cC (λl ρ=>∃(ms:List Int) (ps:List (List Int)) (s x:Sl),l=ms.map U.n/\(s= .ow (ps.map pU)∨s= .sh (.ls (ps.map pU)))/\ρ=[.sh (grU C ns rs),s,x]/\(∀n∈ms,1<=n/\n<=9)/\(∀p∈ps,p.length+ms.length<=3)/\ms.foldl (λps n=>ps.flatMap (ext n)) ps=aAq ns) ?_ ?_ ⟨ns,[[]],_,_,rfl,.inl rfl,rfl,gs.ok,λp hp=>by rw [List.mem_singleton.mp hp];show 0+_<=3;omega,rfl⟩
 ·rintro ρ ⟨ms,ps,s,x,e,hs,rfl,_,_,ee⟩;obtain rfl:ms=[]:=List.map_eq_nil_iff.mp e.symm;have ee:ps=aAq ns:=ee;subst ee;rcases hs with rfl|rfl
  ·exact q _ (.inl rfl)
  ·exact q _ (.inr rfl)
 ·rintro u l ρ ⟨ms0,ps,s,x,e,hs,rfl,hm,h3,ee⟩ ih;cases ms0 with
  |nil=>cases e
  |cons n ms=>
   obtain⟨rfl,rfl⟩:=Bp e;have hn:=hm n Ae;have hm':∀x∈ms,1<=x/\x<=9:=λx hx=>hm x (Ad _ hx);have ee:ms.foldl (λps n=>ps.flatMap (ext n)) (ps.flatMap (ext n))=aAq ns:=ee;have le:=aCd ms (ps.flatMap (ext n)) λx hx=>(hm' x hx).1;rw [ee]at le;have nx:=ih [.sh (grU C ns rs),.ow ((ps.flatMap (ext n)).map pU),.sh (.n n)] ⟨ms,ps.flatMap (ext n),_,_,rfl,.inl rfl,rfl,hm',λp hp=>by
    obtain⟨p0,h0,h1⟩:=List.mem_flatMap.mp hp;obtain⟨i,_,rfl⟩:=List.mem_map.mp h1;have:=h3 p0 h0;rw [Ah]at this;rw [Ag];show _+1+_<=3;omega,ee⟩
   rcases hs with rfl|rfl
   ·exact⟨ps,n,rfl,by omega,by omega,by omega,λp hp=>by have:=h3 p hp;omega,nx⟩
   ·exact⟨ps,n,rfl,by omega,by omega,by omega,λp hp=>by have:=h3 p hp;omega,nx⟩
def aJx (pl:List U) (n:Nat) (h:pl.length<=40):(spU pl n).length<=40*n:=by
 induction n with
 |zero=>exact Am _
 |succ n ih=>
  rw [<-rP,Ag,Ab];omega
def aS9 (N:Cn) (CG CJ:Addr):Fv:=λus R=>∃ns rs t ys m r ls,us=[aEb N CG CJ ns rs t ys m r ls]/\lJ ns/\(aAq ns).length<=40/\0<=r/\r<=12/\R (.ow (spU (plU ns) r.toNat))
abbrev xV:List Str:=["self","places","spots","round_at"]
def fV:aL ["self","places","spots","round_at"] ["self"] (aC gU):=⟨rfl,rfl,rfl,by decide+kernel,rfl,by decide+kernel,by decide+kernel⟩
def aQo (F:Fun K "all_spots" "Job.all_spots" gU f fd) (cJ:Cfl K CJ ["taken","grid","term","modulus","rounds","first"]) (D_all_places:Dis P w K mg base CX0 2 (·=CG) "all_places" ["self"] λ_=>spV (aS7 CG)) (T:Txt mg):bB P w K mg base CX0 3 f fd ["self"] (spV (aS9 N CG CJ)):=by
 refine vfn F fV (λcdv A outer s H E hr=>(aD (bD (i:=1) fV.nd (cI (dI cJ (aA 0)) D_all_places (hr.mono (by decide)))) (qI 1 (aD (bD (i:=2) fV.nd (cD aH)) (aD (eV Bd rfl (wN T.range (aP aF (aP (aU bA bM (dI cJ (aA 0)) aF) aY))) (dR (i:=3) fV.nd) (aG (aMx 2 (mL (own:=["place"]) (cap:=[("round_at",3)]) (aC gU) xV rfl rfl (λx h=>bO h) (by decide+kernel) rfl (vic (bT (aA 1))) (λcl C s2 H2 fp=>(bL (i:=0) (show(["place","round_at"]:List Str).Nodup by decide+kernel) rfl (Bu rfl) (Bz rfl))) (cT (by decide)) (λcl C s2 H2 fp=>(cY (aB (aA 1) (aB (aA 0) aH)))))))) (aG (iM 2))))))) ?_;rintro _ R ⟨ns,rs,t,ys,m,r,ls,rfl,gs,hl,r0,r12,q⟩;have pl40:(plU ns).length<=40:=by rw [Ab];exact hl
 have main:lY (kZ 3) (aUl 2 (aFh 1 [("round_at",3)] (vLs (jE 1)) (kZ 0) (aW0 (qM (jE 1) (qM (jE 0) aBh))))) {nx:=aO3 2 {nx:=λ_=>R (.sh .no),rt:=R},rt:=R} (qK 1 (r+1-1).toNat) [.sh (aEb N CG CJ ns rs t ys m r ls),.sh (.ls (plU ns)),.ow [],.no]:=by
  refine cC (λl ρ=>∃(k:Nat) (x:Sl),l=(Lo k (r.toNat-k)).map (λi:Nat=>U.n (1+(i:Int)))/\k<=r.toNat/\ρ=[.sh (aEb N CG CJ ns rs t ys m r ls),.sh (.ls (plU ns)),.ow (spU (plU ns) k),x]) ?_ ?_ ⟨0,_,by rw [La, <-Hg,show(r+1-1)=r by omega];rfl,Bb _,rfl⟩
  ·rintro ρ ⟨k,x,e,hk,rfl⟩;have:k=r.toNat:=by
    have:=congrArg Cg e;simp at this;omega
   subst this;exact q
  ·rintro u l ρ ⟨k,x,e,hk,rfl⟩ ih;have hlt:k<r.toNat:=by
    have:=congrArg Cg e;simp at this;omega
   rw [show r.toNat-k=(r.toNat-(k+1))+1 by omega,Iq,Aw]at e;obtain⟨rfl,rfl⟩:=Bp e;have sl:=aJx (plU ns) k pl40;refine⟨by omega,eY (h:=λu=> .tp [.n (1+(k:Int)),u]) (λu hu c hc=>hc) ⟨?_,?_⟩⟩
   ·rw [Dy,Ab];omega
   ·rw [Dy];exact ih _ ⟨k+1,_,rfl,hlt,by rw [<-rP];rfl⟩
 refine⟨rfl,rfl,.inr ⟨by decide+kernel,.inl ⟨rfl,rfl,rfl,ns,rs,rfl,gs,hl,λs hs=>?_⟩⟩⟩;rcases hs with rfl|rfl
 all_goals
  refine⟨rfl,show wH "rounds" ["taken","grid","term","modulus","rounds","first"] _ _ from aBy (xs:=["taken","grid","term","modulus","rounds","first"]) (k:=4) (u:= .n r) ?_ (by decide+kernel) rfl rfl⟩;exact⟨⟨by omega,by omega,by omega,by omega⟩,main⟩
def aK8 {m x:Int} (h:0<m):(-1-x) % m=m-1-x % m:=by
 have h1:=Int.emod_add_mul_ediv x m;have e: -1-x=(m-1-x % m)+m*(-(x / m)-1):=by rw [Int.mul_sub,Int.mul_neg];omega
 rw [e,Ms];exact Kw (by have:=Ff x h;omega) (by have:=Gm x (by omega:m≠0);omega)
def aJt {s x:Int} (h:0<s):mir s (-1-x)=mir s x:=by
 unfold mir;rw [aK8 (by omega)];generalize x % (2*s)=a;split<;>split<;>omega
def aUh {s x:Int} (h:0<s):mir s (2*s-1-x)=mir s x:=by
 have e:(2*s-1-x) % (2*s)=(-1-x) % (2*s):=by rw [show 2*s-1-x=(-1-x)+(2*s)*1 by omega,Ms]
 rw [<-aJt (x:=x) h];unfold mir;rw [e]
def aPc {s x:Int} (h0:0<=x) (h:x<s):mir s x=x:=by
 unfold mir;rw [Kw h0 (by omega),if_pos h]
def aXl:Fv:=λus R=>∃(r:Rim) (s x:Int),us=[.n x,.n s,r.u]/\0<s/\s<=9/\ -(100:Int)<=x/\x<=100/\R (.sh (oU (byR r s x)))
def oE:aL ["_law_x","_law_size","_law_rim"] ["_law_x","_law_size","_law_rim"] (aC qJ):=⟨rfl,rfl,rfl,by decide+kernel,rfl,by decide+kernel,by decide+kernel⟩
def aOd (F:Fun K "_law_along" "_law_along" qJ f fd) (T:Txt mg):bB P w K mg base CX0 1 f fd ["_law_x","_law_size","_law_rim"] (spV aXl):=by
 refine vfn F oE (λcdv A outer s H E hr=>(aD (cW (bW (lA (huD hr)) jH (bU bC bV (aA 2) aF) bQ) (aG (aV (aU nZ jK (aA 0) (aA 1)))) bK) (aD (cW (bW (lA (huD hr)) jH (bU bC bV (aA 2) aF) bQ) (aG (aV (bU bC bV (cD (aB pX (aB (aA 0) aH))) (dU aCh aP0 T.int Sb (aP (aFt uT vW cF cF aF (aA 0) (aA 1)) aY))))) bK) (aD (aGm Bd (gF (wB uT vW cF cF aF (aA 0) (aA 1))) (aG (cW (bW vW cF (aA 0) aF) (aG (bD (i:=0) oE.nd (aU iC cF (aU iC cF aF aF) (aA 0)))) (aG (bD (i:=0) oE.nd (aU iC cF (aU iC cF (aU lE jK aF (aA 1)) aF) (aA 0))))))) (aG (iM 0)))))) ?_;rintro _ R ⟨r,s,x,rfl,h1,h2,x1,x2,q⟩;have no:∀{k:Bool},k=false->¬k=true:=λh z=>by rw [h]at z;cases z
 have yes:∀{k:Bool} {p:Prop},k=true->k=false->p:=λh z=>by rw [h]at z;cases z
 refine⟨rfl,?_⟩;cases r with
 |round=>
  have e:byR .round s x=some (x % s):=by
   simp only [byR];split
   ·rename_i h;rw [Kw h.1 h.2]
   ·rfl
  rw [e]at q;exact⟨_,rfl,trivial,trivial,λ_=>⟨h1,q⟩,λz=>yes (by decide+kernel) z⟩
 |fixed c=>
  refine⟨_,rfl,trivial,trivial,λz=>absurd z (no (by decide+kernel)),λ_=>⟨_,rfl,trivial,trivial,λ_=>?_,λz=>yes (by decide+kernel) z⟩⟩;have a:0<=x/\x<s->R (.sh (.n x)):=λh=>by
   rw [show byR (.fixed c) s x=some x from if_pos h]at q;exact q
  have b:¬(0<=x/\x<s)->R (.sh .no):=λh=>by
   rw [show byR (.fixed c) s x=none from if_neg h]at q;exact q
  refine⟨λz=>?_,λz=>?_⟩
  ·show∃u,atI [U.no,U.n x] (if decide (x<s)then(1:Int)else 0)=some u/\R (.sh u);by_cases h:x<s
   ·rw [decide_eq_true h];exact⟨_,rfl,a ⟨of_decide_eq_true z,h⟩⟩
   ·rw [decide_eq_false h];exact⟨_,rfl,b λz=>h z.2⟩
  ·exact⟨_,rfl,b λz'=>absurd z'.1 (of_decide_eq_false z)⟩
 |mirror=>
  refine⟨_,rfl,trivial,trivial,λz=>absurd z (no (by decide+kernel)),λ_=>⟨_,rfl,trivial,trivial,λz=>absurd z (no (by decide+kernel)),λ_=>?_⟩⟩;have e:byR .mirror s x=some (mir s x):=by
   simp only [byR];split
   ·rename_i h;rw [aPc h.1 h.2]
   ·rfl
  rw [e]at q;refine⟨λm ρ=>∃y,ρ=[.sh (.n y),.sh (.n s),.sh (Rim.u .mirror)]/\mir s y=mir s x/\m=(2*y-s+1).natAbs,⟨_,x,rfl,rfl,rfl⟩,?_⟩;rintro m ρ ⟨y,rfl,ey,rfl⟩;refine⟨λz=>⟨λz2=>?_,λz2=>?_⟩,λz=>⟨λ_=>?_,nofun⟩⟩
  ·have z:=of_decide_eq_true z;have z2:¬y<s:=λh=>by rw [decide_eq_true h]at z2;cases z2
   refine⟨λh=>absurd (of_decide_eq_true h) (by omega),λ_=>⟨.inl (by constructor<;>decide),?_⟩⟩;exact⟨_,by omega,2*s-1-y,rfl,(aUh h1).trans ey,rfl⟩
  ·have z:=of_decide_eq_true z;have z2:y<s:=Hm λh=>by rw [decide_eq_false h]at z2;cases z2
   rw [<-ey,aPc z z2]at q;exact q
  ·have z:=of_decide_eq_false z;refine⟨λ_=>?_,λh=>absurd (of_decide_eq_false h) (by omega)⟩;exact⟨_,by omega,0-1-y,rfl,(aJt h1).trans ey,rfl⟩
def alo:List Int->List Rim->List Int->List Int->List (Option Int)
 |n::ns,r::rs,i::is,s::ss=>byR r n (i+s)::alo ns rs is ss
 |_,_,_,_=>[]
theorem aIv:∀(ns:List Int) (rs:List Rim) (is ss:List Int),(∀l,bes ns rs is ss= .ok l->alo ns rs is ss=l.map some)/\(∀c,bes ns rs is ss= .error c->none∈alo ns rs is ss)
 |n::ns,r::rs,i::is,s::ss=>by
  obtain⟨h1,h2⟩:=aIv ns rs is ss;show(∀l,(match byR r n (i+s)with|none=> .error r.c|some x=>match bes ns rs is ss with| .error c=> .error c| .ok l=> .ok (x::l))=Qi l->byR r n (i+s)::alo ns rs is ss=l.map some)/\∀c,(match byR r n (i+s)with|none=> .error r.c|some x=>match bes ns rs is ss with| .error c=> .error c| .ok l=> .ok (x::l))=Except.error c->none∈byR r n (i+s)::alo ns rs is ss;cases byR r n (i+s)with
  |none=>exact⟨nofun,λ_ _=>Ae⟩
  |some x=>
   cases hb:bes ns rs is ss with
   |error c=>exact⟨nofun,λ_ _=>Ad _ (h2 c hb)⟩
   |ok l=>exact⟨λm e=>by cases e;rw [h1 l hb];rfl,nofun⟩
 | [],_,_,_=>⟨λl e=>by cases e;rfl,nofun⟩
 |_::_,[],_,_=>⟨λl e=>by cases e;rfl,nofun⟩
 |_::_,_::_,[],_=>⟨λl e=>by cases e;rfl,nofun⟩
 |_::_,_::_,_::_,[]=>⟨λl e=>by cases e;rfl,nofun⟩
def aYq (l:List (Option Int)):U.dts 40 (l.map oU):=by
 induction l with
 |nil=>trivial
 |cons x l ih=>exact⟨by cases x<;>trivial,ih⟩
def aNn (l:List (Option Int)):((l.map oU).any λe=>e.eq .no)=l.elem none:=by
 induction l with
 |nil=>rfl
 |cons x l ih=>
  rw [Aw,Dw,ih,Rt];cases x with
  |none=>rfl
  |some i=>rfl
structure aTw (ns:List Int) (q:Tk):Prop where
 l:q.2.length=ns.length
 x:∀x∈q.2,0<=x/\x<=9
def aDc:Fv:=λus R=>∃ns rs pl r ys dp m t ls sp,∃q:Tk,us=[wU ns rs pl r ys dp m t ls sp,tkU q]/\GoodW ns rs r ys m t ls/\aTw ns q/\∀zs,aW3 ns rs ys q zs->R (.ow (zs.map tkU))
def dB:aL ["_law_world_here","_law_spot","_law_found","_law_back","_law_steps","_law_place","_law_k","_law_there"] ["_law_world_here","_law_spot"] (aC pZ):=⟨rfl,rfl,rfl,by decide+kernel,rfl,by decide+kernel,by decide+kernel⟩
set_option maxHeartbeats 1000000 in
def aLl (F:Fun K "_law_leans" "_law_leans" pZ f fd) (c__law_along:Cal P w K mg base CX0 1 "_law_along" ["_law_x","_law_size","_law_rim"] (spV aXl)) (T:Txt mg):bB P w K mg base CX0 2 f fd ["_law_world_here","_law_spot"] (spV aDc):=by
 refine vfn F dB (λcdv A outer s H E hr=>(aD (bD (i:=2) dB.nd (aQi (P:=P) (w:=w) rfl rfl)) (aD (eV Bd rfl (bT (jO (oJ hr) (aA 0))) (aD8 rfl (jW (i:=3) dB.nd (jW (i:=4) dB.nd yO))) (aD (bD (i:=5) dB.nd (cY aH)) (aD (eV Bd rfl (jY T.range (aP (bJ aX dO T.len Ek (aP (aA 4) aY)) aY)) (dR (i:=6) dB.nd) (aD (bD (i:=7) dB.nd (aO c__law_along (hr.mono (by decide)) rfl (aB (aU bA bM (bU bC bV (bU bC bV (aA 1) aF) (aA 6)) (bU bC bV (aA 4) (aA 6))) (aB (bU bC bV (jO (oJ hr) (aA 0)) (aA 6)) (aB (bU bC bV (jO (oJ hr) (aA 0)) (aA 6)) aH))))) (aG (bD (i:=5) dB.nd (aU bA bM (aA 5) (cY (aB (aA 7) aH))))))) (aG (cW (tR (aM2 (bW (wK (huD hr)) aE0 pX (aA 5)) (aJk (bW tE cF (bU bC bV (aA 1) aF) (aA 3))))) (aG (aRo (P:=P) (w:=w) 2 rfl rfl hr (cY (aB (aU iC cF (bU bC bV (aA 1) aF) (aA 3)) (aB (aA 5) aH))) tG)) bK))))) (aG (aV (aLz (P:=P) (w:=w) rfl rfl hr rfl T.sorted (aA 2))))))) ?_;rintro _ R ⟨ns,rs,pl,r,ys,dp,m,t,ls,sp,q0,rfl,g,gq,q⟩;have gy:=aSk g.gj.ok g.gj.ln g.tk;have l3:=g.gj.gs.l3;have el:=g.gj.el;refine⟨rfl,wF 4 rfl rfl ?_⟩;refine cC (λl ρ=>∃(rest:List Tk) (kvs:List (Tke×U)) (a b c d e:Sl),l=rest.map tkU/\ρ=[.sh (wU ns rs pl r ys dp m t ls sp),.sh (tkU q0),.oo (pdO P w kvs),a,b,c,d,e]/\(∀y∈rest,y∈ys)/\kvs.length+rest.length<=17/\(kvs.map (·.1)).Nodup/\∀z,(z∈kvs.map (·.1)∨z∈rest.filterMap (jJ ns rs q0))↔z∈ys.filterMap (jJ ns rs q0)) ?_ ?_ ⟨ys,[],_,_,_,_,_,rfl,rfl,λ_ h=>h,by have:=gy.yl;simpa using this,Hx,λz=>⟨λh=>h.elim nofun id,.inr⟩⟩
 ·rintro ρ ⟨rest,kvs,a,b,c,d,e,er,rfl,_,hl,nd,hz⟩;obtain rfl:rest=[]:=List.map_eq_nil_iff.mp er.symm;refine⟨kvs,.inl rfl,by omega,λzs pm pw=>q zs ⟨pw,λz=>?_⟩⟩;rw [pm.mem_iff, <-hz z];exact⟨.inl,λh=>h.elim id nofun⟩
 ·rintro u l ρ ⟨rest0,kvs,a,b,c,d,e,er,rfl,hs,hl,nd,hz⟩ ih;cases rest0 with
  |nil=>cases er
  |cons y rest=>
   obtain⟨rfl,rfl⟩:=Bp er;have hy:=hs y Ae;obtain⟨⟨y1,y2,y9⟩,yn⟩:=gy.gt y hy;rw [Ah]at hl;refine⟨rfl,by omega,by rw [Ab];omega,?_⟩;rw [Ab,yn,Ik];refine cC (λl ρ=>∃(k:Nat) (xs:List (Option Int)) (x z:Sl),l=(Lo k (ns.length-k)).map (λi:Nat=>U.n (0+(i:Int)))/\k<=ns.length/\xs.length=k/\ρ=[.sh (wU ns rs pl r ys dp m t ls sp),.sh (tkU q0),.oo (pdO P w kvs),.sh (.n y.1),.sh (.tp (y.2.map U.n)),.sh (.tp (xs.map oU)),x,z]/\xs++alo (ns.drop k) (rs.drop k) (q0.2.drop k) (y.2.drop k)=alo ns rs q0.2 y.2) ?_ ?_ ⟨0,[],_,_,by rw [La, <-Hg];rfl,Bb _,rfl,rfl,rfl⟩
   ·rintro ρ ⟨k,xs,x,z,e,hk,xk,rfl,ea⟩;have:k=ns.length:=by
     have:=congrArg Cg e;simp at this;omega
    subst this;rw [Ir]at ea;have ea:xs++[]=alo ns rs q0.2 y.2:=ea;rw [Bg]at ea;subst ea;obtain⟨b1,b2⟩:=aIv ns rs q0.2 y.2;have fin:∀o:Option Tk,jJ ns rs q0 y=o->∀z,(z∈kvs.map (·.1)∨some z=o∨z∈rest.filterMap (jJ ns rs q0))↔z∈ys.filterMap (jJ ns rs q0):=λo ho z=>by
     rw [<-hz z,Gc,ho];cases o with
     |none=>exact⟨λh=>h.elim .inl λh=>h.elim nofun .inr,λh=>h.elim .inl λh=> .inr (.inr h)⟩
     |some v=>exact⟨λh=>h.elim .inl λh=> .inr (h.elim (λh=>by cases h;exact Ae) (Ad _)),λh=>h.elim .inl λh=> .inr ((List.mem_cons.mp h).elim (λh=> .inl (by rw [h])) .inr)⟩
    have ne:∀kvs':List (Tke×U),kvs'.length+rest.length<=17->(kvs'.map (·.1)).Nodup->(∀z,(z∈kvs'.map (·.1)∨z∈rest.filterMap (jJ ns rs q0))↔z∈ys.filterMap (jJ ns rs q0))->lY _ _ _ (rest.map tkU) [.sh (wU ns rs pl r ys dp m t ls sp),.sh (tkU q0),.oo (pdO P w kvs'),.sh (.n y.1),.sh (.tp (y.2.map U.n)),.sh (.tp ((alo ns rs q0.2 y.2).map oU)),x,z]:=λkvs' a1 a2 a3=>ih _ ⟨rest,kvs',_,_,_,_,_,rfl,rfl,λy hy=>hs y (Ad _ hy),a1,a2,a3⟩;have skip:=λh0:jJ ns rs q0 y=none=>ne kvs (by omega) nd λz=>⟨λh=>(fin none h0 z).mp (h.elim .inl λh=> .inr (.inr h)),λh=>((fin none h0 z).mpr h).elim .inl λh=>h.elim nofun .inr⟩;refine⟨trivial,aYq _,λh=>?_,λh=>⟨nofun,λ_=>skip ?_⟩⟩
    ·have h:(!(((alo ns rs q0.2 y.2).map oU).any λe=>e.eq .no))=true:=h;rw [aNn,Bool.not_eq_true']at h;have h:none∉alo ns rs q0.2 y.2:=λz=>by rw [List.elem_iff.mpr z]at h;cases h
     cases hb:bes ns rs q0.2 y.2 with
     |error c=>exact absurd (b2 c hb) h
     |ok l=>
      have hl1:jJ ns rs q0 y=if 0<q0.1-y.1 then some (q0.1-y.1,l)else none:=by unfold jJ;rw [hb]
      refine⟨_,rfl,λh'=>?_,λh'=>skip ?_⟩
      ·have h':y.1<q0.1:=of_decide_eq_true h';rw [if_pos (by omega)]at hl1;refine⟨kvs,rfl,by omega,_,rfl,(q0.1-y.1,l),?_,ne _ (by have:=aL9 (l:=kvs) (k:=(q0.1-y.1,l)) (u:=U.b true);omega) ?_ λz=>?_⟩
       ·show U.tp [.n (q0.1-y.1),.tp ((alo ns rs q0.2 y.2).map oU)]=U.tp [.n (q0.1-y.1),.tp (l.map U.n)];rw [b1 l hb,Bk];rfl
       ·exact aSa nd
       ·rw [aPr, <-fin _ hl1 z];exact⟨λh=>h.elim (λh=>h.elim .inl λh=> .inr (.inl (by rw [h]))) λh=> .inr (.inr h),λh=>h.elim (λh=> .inl (.inl h)) λh=>h.elim (λh=> .inl (.inr (Bl h))) .inr⟩
      ·rw [hl1,if_neg (by have:=of_decide_eq_false h';omega)]
    ·have h:(!(((alo ns rs q0.2 y.2).map oU).any λe=>e.eq .no))=false:=h;rw [aNn,Bool.not_eq_false']at h;have h:none∈alo ns rs q0.2 y.2:=List.elem_iff.mp h;unfold jJ;cases hb:bes ns rs q0.2 y.2 with
     |error c=>rfl
     |ok l=>
      rw [b1 l hb]at h;obtain⟨_,_,e⟩:=List.mem_map.mp h;cases e
   ·rintro u l ρ ⟨k,xs,x,z,e,hk,xk,rfl,ea⟩ ih2;have hlt:k<ns.length:=by
     have:=congrArg Cg e;simp at this;omega
    rw [show ns.length-k=(ns.length-(k+1))+1 by omega,Iq,Aw]at e;obtain⟨rfl,rfl⟩:=Bp e;have kr:k<rs.length:=by omega
    have kq:k<q0.2.length:=by rw [gq.l];exact hlt
    have ky:k<y.2.length:=by omega
    have at_:∀{l:List Int} (h:k<l.length),atI (l.map U.n) (0+(k:Int))=some (U.n l[k]):=λ{l} h=>by rw [Vf];exact sO (by rw [Az,Ak h];rfl)
    have atr:atI (rs.map Rim.u) (0+(k:Int))=some rs[k].u:=by rw [Vf];exact sO (by rw [Az,Ak kr];rfl)
    have ok:=g.gj.gs.ok _ (Eb hlt);have xq:=gq.x _ (Eb kq);have x9:=y9 _ (Eb ky);refine⟨_,rfl,_,at_ kq,_,at_ ky,wF 0 rfl rfl ⟨_,at_ hlt,wF 1 rfl rfl ⟨_,atr,rs[k],ns[k],q0.2[k]+y.2[k],rfl,by omega,by omega,by omega,by omega,?_,?_⟩⟩⟩
    ·show(xs.map oU).length+1<=10000;rw [Ab];omega
    ·refine ih2 _ ⟨k+1,xs++[byR rs[k] ns[k] (q0.2[k]+y.2[k])],_,_,rfl,hlt,by rw [Ag,xk];rfl,by rw [Ay];rfl,?_⟩;rw [<-ea,Bh hlt,Bh kr,Bh kq,Bh ky,Bi];rfl
def spS (ns:List Int) (n:Nat):List Tk:=(Bq n).flatMap λ(j:Nat)=>(aAq ns).map λp=>(1+(j:Int),p)
def aHk (ns:List Int) (n:Nat):spU (plU ns) n=(spS ns n).map tkU:=by
 unfold spU spS;rw [List.map_flatMap];congr 1;funext j;rw [Bk,Bk];rfl
def aQd {n:Int} (h:0<=n) (ps:List (List Int)):((ps.flatMap (ext n)).length:Int)=ps.length*n:=by
 induction ps with
 |nil=>simp
 |cons p ps ih=>
  rw [Kl,Ag,Ah];have:(ext n p).length=n.toNat:=by unfold ext;rw [Ab,Df]
  rw [this,Jm,ih,Jm,Py];omega
theorem aFb:∀(ns:List Int) (ps:List (List Int)),(∀n∈ns,1<=n)->((ns.foldl (λps n=>ps.flatMap (ext n)) ps).length:Int)=ns.foldl (λa n=>a*n) (ps.length:Int)
 | [],_,_=>rfl
 |n::ns,ps,h=>by
  rw [Fm,Fm,aFb ns _ λx hx=>h x (Ad _ hx),aQd (by have:=h n Ae;omega)]
def aOl (h:∀n∈ns,1<=n):((aAq ns).length:Int)=qR ns:=aFb ns [[]] h
theorem aCu:∀(ns:List Int) (ps:List (List Int)) (a:Nat),(∀n∈ns,n<=9)->(∀p∈ps,p.length=a/\∀x∈p,0<=x/\x<=9)->∀p∈ns.foldl (λps n=>ps.flatMap (ext n)) ps,p.length=a+ns.length/\∀x∈p,0<=x/\x<=9
 | [],_,_,_,hp=>hp
 |n::ns,ps,a,h,hp=>by
  have:=aCu ns (ps.flatMap (ext n)) (a+1) (λx hx=>h x (Ad _ hx)) λp hq=>by
   obtain⟨p0,h0,h1⟩:=List.mem_flatMap.mp hq;obtain⟨i,hi,rfl⟩:=List.mem_map.mp h1;have hn:=h n Ae;have hi:=List.mem_range.mp hi;obtain⟨l0,x0⟩:=hp p0 h0;refine⟨by rw [Ag,l0];rfl,λx hx=>(List.mem_append.mp hx).elim (x0 x) λhx=>?_⟩;rw [List.mem_singleton.mp hx];omega
  intro p hq;obtain⟨a1,a2⟩:=this p hq;exact⟨by rw [a1,Ah];omega,a2⟩
def zA {q:Tk} (gs:lJ ns) (h:q∈spS ns n):aTw ns q/\1<=q.1:=by
 obtain⟨j,_,h⟩:=List.mem_flatMap.mp h;obtain⟨p,hp,rfl⟩:=List.mem_map.mp h;obtain⟨a1,a2⟩:=aCu ns [[]] 0 (λn hn=>(gs.ok n hn).2) (λp hp=>by rw [List.mem_singleton.mp hp];exact⟨rfl,nofun⟩) p hp;exact⟨⟨by rw [a1];omega,a2⟩,by show 1<=1+(j:Int);omega⟩
def aMb (ms:List Int):D.eqs (U.ds (ms.map U.n)) (U.ds (ms.map U.n))=true:=by
 induction ms with
 |nil=>rfl
 |cons a l ih=>
  show(eqV (.int a) (.int a) && D.eqs (U.ds (l.map U.n)) (U.ds (l.map U.n)))=true;rw [ih];simp [eqV]
def aUo (ys:List Tk):U.eq (.ls (ys.map tkU)) (.ls (ys.map tkU))=true:=by
 show D.eqs (U.ds _) (U.ds _)=true;induction ys with
 |nil=>rfl
 |cons y l ih=>
  show((eqV (.int y.1) (.int y.1) && (D.eqs (U.ds (y.2.map U.n)) (U.ds (y.2.map U.n)) && true)) && D.eqs (U.ds (l.map tkU)) (U.ds (l.map tkU)))=true;rw [ih,aMb];simp [eqV]
def aOf (gs:lJ ns):(aAq ns).length<=40:=by
 have:=aOl λn hn=>(gs.ok n hn).1;have:=gs.mn;omega
def aVi (h:l.Pairwise λx y=>mO x y=true):l.Nodup:=h.imp λ{a b} h e=>by
 subst e;unfold mO at h;rw [if_pos rfl,vX]at h;cases h
theorem aE5:∀(l m:List Int),D.eqs (U.ds (l.map U.n)) (U.ds (m.map U.n))=decide (l=m)
 | [],[]=>rfl
 | [],_::_=>rfl
 |_::_,[]=>rfl
 |a::l,b::m=>by
  show(eqV (.int a) (.int b) && D.eqs (U.ds (l.map U.n)) (U.ds (m.map U.n)))=_;rw [aE5 l m];simp [eqV];rfl
def aPx (a b:Tk):U.eq (tkU a) (tkU b)=decide (a=b):=by
 show(eqV (.int a.1) (.int b.1) && (D.eqs (U.ds (a.2.map U.n)) (U.ds (b.2.map U.n)) && true))=_;rw [aE5];obtain⟨a1,a2⟩:=a;obtain⟨b1,b2⟩:=b;simp [eqV];rfl
def aIp (zs:List Tk) (p:Tk):((zs.map tkU).any λe=>e.eq (tkU p))=decide (p∈zs):=by
 rw [Tt,Ej,Lc,decide_eq_true_iff];exact⟨λ⟨x,hx,h⟩=>by rw [<-of_decide_eq_true ((aPx x p).symm.trans h)];exact hx,λh=>⟨p,h,(aPx p p).trans (decide_eq_true rfl)⟩⟩
def lnB (ns:List Int) (rs:List Rim) (ys:List Tk) (q z:Tk):Bool:=decide (z∈ys.filterMap (jJ ns rs q))
def Inn:List Int->List Int->Prop
 | [],l=>l=[]
 |n::ns,l=>∃x r,l=x::r/\0<=x/\x<n/\Inn ns r
def aT6 {r:Rim} {s x y:Int} (h:0<s) (e:byR r s x=some y):0<=y/\y<s:=by
 cases r with
 |fixed c=>
  simp only [byR]at e;split at e
  ·cases e;assumption
  ·cases e
 |mirror=>
  simp only [byR]at e;split at e
  ·cases e;assumption
  ·cases e;unfold mir;have:=Gm x (by omega:2*s≠0);have:=Ff x (by omega:0<2*s);split<;>omega
 |round=>
  simp only [byR]at e;split at e
  ·cases e;assumption
  ·cases e;exact⟨Gm x (by omega),Ff x h⟩
theorem aNi:∀{ns:List Int} {rs:List Rim} {is ss l:List Int},(∀n∈ns,0<n)->rs.length=ns.length->is.length=ns.length->ss.length=ns.length->bes ns rs is ss= .ok l->Inn ns l
 | [],_,_,_,l,_,_,_,_,e=>by cases e;rfl
 |n::ns,r::rs,i::is,s::ss,l,h,h1,h2,h3,e=>by
  unfold bes at e;cases hb:byR r n (i+s)with
  |none=>rw [hb]at e;cases e
  |some x=>
   rw [hb]at e;cases hc:bes ns rs is ss with
   |error c=>rw [hc]at e;cases e
   |ok m=>
    rw [hc]at e;cases e;obtain⟨a,b⟩:=aT6 (h n Ae) hb;exact⟨x,m,rfl,a,b,aNi (λy hy=>h y (Ad _ hy)) (Ez h1) (Ez h2) (Ez h3) hc⟩
theorem aCq:∀{ns:List Int} {ps:List (List Int)} {p l:List Int},p∈ps->Inn ns l->p++l∈ns.foldl (λps n=>ps.flatMap (ext n)) ps
 | [],_,_,l,h,e=>by rw [show l=[]from e,Bg];exact h
 |n::ns,ps,p,_,h,⟨x,r,e,a,b,t⟩=>by
  subst e;rw [List.append_cons];refine aCq (ns:=ns) (ps:=ps.flatMap (ext n)) (p:=p++[x]) (l:=r) (List.mem_flatMap.mpr ⟨p,h,List.mem_map.mpr ⟨x.toNat,List.mem_range.mpr (by omega),?_⟩⟩) t;rw [show 0+(x.toNat:Int)=x by omega]
def aQ3 {q:Tk} (h1:1<=q.1) (h2:q.1<=n) (h:Inn ns q.2):q∈spS ns n:=List.mem_flatMap.mpr ⟨(q.1-1).toNat,List.mem_range.mpr (by omega),List.mem_map.mpr ⟨q.2,aCq (p:=[]) Ae h,by
 show(1+((q.1-1).toNat:Int),q.2)=q;rw [show 1+((q.1-1).toNat:Int)=q.1 by omega]⟩⟩
def aWa {q:Tk} (h:q∈spS ns n):q.1<=n:=by
 obtain⟨j,hj,h⟩:=List.mem_flatMap.mp h;obtain⟨p,hp,rfl⟩:=List.mem_map.mp h;have:=List.mem_range.mp hj;show 1+(j:Int)<=n;omega
def aWm {n:Int} {ps:List (List Int)} (h:ps.Nodup):(ps.flatMap (ext n)).Nodup:=by
 unfold Kn;rw [Of];refine⟨λp hp=>?_,h.imp λ{a b} h x hx y hy e=>?_⟩
 ·unfold ext;rw [Dt];exact(Fy (n:=n.toNat)).imp λh e=>h (by have:=(Bp (List.append_cancel_left e)).1;omega)
 ·obtain⟨i,_,rfl⟩:=List.mem_map.mp hx;obtain⟨j,_,rfl⟩:=List.mem_map.mp hy;exact h (List.append_inj' e rfl).1
theorem aGe:∀{ns:List Int} {ps:List (List Int)},ps.Nodup->(ns.foldl (λps n=>ps.flatMap (ext n)) ps).Nodup
 | [],_,h=>h
 |n::ns,ps,h=>aGe (ns:=ns) (ps:=ps.flatMap (ext n)) (aWm h)
def aQb (ns:List Int) (n:Nat):(spS ns n).Nodup:=by
 unfold Kn spS;rw [Of];refine⟨λj hj=>?_,(Fy (n:=n)).imp λ{a b} h x hx y hy e=>?_⟩
 ·rw [Dt];exact(aGe (ns:=ns) (ps:=[[]]) (by simp)).imp λh e=>h (Ro e).2
 ·obtain⟨p,_,rfl⟩:=List.mem_map.mp hx;obtain⟨p',_,rfl⟩:=List.mem_map.mp hy;have:=(Ro e).1;omega
def aSf {q z:Tk} (gs:lJ ns) (el:rs.length=ns.length) (hq:q∈spS ns n) (hy:∀y∈ys,vV y/\y.2.length=ns.length) (h:z∈ys.filterMap (jJ ns rs q)):z∈spS ns n:=by
 obtain⟨y,hy',e⟩:=List.mem_filterMap.mp h;obtain⟨gq,_⟩:=zA gs hq;have q1:=aWa hq;obtain⟨gy,ly⟩:=hy y hy';unfold jJ at e;split at e
 ·cases e
 ·rename_i l hb;split at e
  ·rename_i h0;cases e;exact aQ3 (by show 1<=q.1-y.1;omega) (by show q.1-y.1<=n;have:=gy.1;omega) (aNi (λn hn=>by have:=(gs.ok n hn).1;omega) el gq.l ly hb)
  ·cases e
def rdS (ns:List Int) (rs:List Rim) (ys:List Tk) (n:Nat) (p:Tk):List Tk:=(spS ns n).filter λq=>lnB ns rs ys q p
def aJ0 (gs:lJ ns) (h:r<=12):(spS ns r.toNat).length<=480:=by
 have:=aJx (plU ns) r.toNat (by rw [Ab];exact aOf gs);rw [aHk,Ab]at this;omega
def uR (N:Cn) (CG CJ:Addr):Fv:=λus R=>∃ns rs t ys m r ls,∃p:Tk,us=[aEb N CG CJ ns rs t ys m r ls,tkU p]/\lJ ns/\rs.length=ns.length/\(∀y∈ys,y.2.length=ns.length)/\ys.length<=17/\0<=r/\r<=12/\R (.ow ((rdS ns rs ys r.toNat p).map tkU))
abbrev aD9:List Str:=["job","spot"]
def aBe:aL ["job","spot"] ["job","spot"] (aC lR):=⟨rfl,rfl,rfl,by decide+kernel,rfl,by decide+kernel,by decide+kernel⟩
def aIe (F:Fun K "readers_of" "readers_of" lR f fd) (D_all_spots:Dis P w K mg base CX0 3 (·=CJ) "all_spots" ["self"] λ_=>spV (aS9 N CG CJ)) (c_leans_of:Cal P w K mg base CX0 6 "leans_of" ["job","spot"] (spV (aEe N CG CJ))) (T:Txt mg):bB P w K mg base CX0 7 f fd ["job","spot"] (spV (uR N CG CJ)):=by
 refine vfn F aBe (λcdv A outer s H E hr=>(aG (aV (aHv (own:=["reader"]) (cap:=[("job",0),("spot",1)]) (aC lR) aD9 rfl rfl (λx h=>bO h) (by decide+kernel) rfl (vic (bT (cI (aA 0) D_all_spots (hr.mono (by decide))))) (λcl C s2 H2 fp=>(bL (i:=0) (show(["reader","job","spot"]:List Str).Nodup by decide+kernel) rfl (Bu rfl) (Bz rfl))) (cT (by decide)) (λcl C s2 H2 fp=>(bW (aMu (huD hr)) aE0 (aA 2) (aO c_leans_of (hr.mono (by decide)) rfl (aB (aA 1) (aB (aA 0) aH))))) (λcl C s2 H2 fp=>(aA 0)))))) ?_;rintro _ R ⟨ns,rs,t,ys,m,r,ls,p,rfl,gs,el,yn,yl,r0,r12,q⟩;refine⟨rfl,rfl,rfl,ns,rs,t,ys,m,r,ls,rfl,gs,aOf gs,r0,r12,?_⟩;rw [aHk];refine⟨by rw [Ab];have:=aJ0 gs r12;omega,aAx (p:=λq=>lnB ns rs ys q p) (λy hy k h1 h2=>?_) q⟩;obtain⟨gq,_⟩:=zA gs hy;refine⟨ns,rs,t,ys,m,r,ls,y,rfl,gs,el,gq.l,yn,yl,λzs hz=>⟨(jP 38 [p]).1,jP 38 _,?_⟩⟩;have e:((zs.map tkU).any λe=>e.eq (tkU p))=lnB ns rs ys y p:=by
  rw [aIp];exact decide_eq_decide.mpr (hz.2 p)
 exact⟨λh=>h1 (e.symm.trans h),λh=>h2 (e.symm.trans h)⟩
def aHg (P:Program) (w:World) (K:Ac) (N:Cn) (CG CJ:Addr) (sc:List Int) (k:Nat) (ns:List Int) (rs:List Rim) (r:Int) (zs:List Tk) (dp m:Int) (t:Tm) (ls:List (List Int)) (f:Tk->List U) (x y z:Sl):EV:=[.sh (.op (aDr K sc)),.sh (.n (k:Int)),.sh (wU ns rs (plU ns) r zs dp m t ls ((spS ns r.toNat).map tkU)),.sh (aEb N CG CJ ns rs t zs m r ls),.oo (plO P w (spS ns r.toNat) f),x,y,z]
def aMc {sc:List Int} {dp m:Int} {E:aAk} {x y z:Sl} (g:GoodW ns rs r zs m t ls) (gy:aPh zs ns.length) (sl:(spS ns r.toNat).length<=480) (q:∀f x y z,(∀z,f z=(rdS ns rs zs r.toNat z).map tkU)->E.nx (aHg P w K N CG CJ sc k ns rs r zs dp m t ls f x y z)):
  lY (kZ 5) (aYw (kZ 6) (vLs (aEp aDc (qM (jE 2) (qM (jE 5) aBh)))) (aTh P w 4 (jE 6) (jE 5))) E ((spS ns r.toNat).map tkU) (aHg P w K N CG CJ sc k ns rs r zs dp m t ls (λ_=>[]) x y z):=by
 refine cC (λl ρ=>∃(don rst:List Tk) (f:Tk->List U) (x y z:Sl),l=rst.map tkU/\don++rst=spS ns r.toNat/\(∀z,f z=(don.filter λq=>lnB ns rs zs q z).map tkU)/\ρ=aHg P w K N CG CJ sc k ns rs r zs dp m t ls f x y z) ?_ ?_ ⟨[],spS ns r.toNat,_,_,_,_,rfl,rfl,λ_=>rfl,rfl⟩
 ·rintro ρ ⟨don,rst,f,x,y,z,e1,e2,hf,rfl⟩;obtain rfl:rst=[]:=by
   cases rst with
   |nil=>rfl
   |cons=>cases e1
  rw [Bg]at e2;subst e2;exact q f x y z hf
 ·rintro u2 l2 ρ ⟨don,rst,f,x,y,z,e1,e2,hf,rfl⟩ ih2;cases rst with
  |nil=>cases e1
  |cons q0 rst=>
   cases e1;have hq:q0∈spS ns r.toNat:=by rw [<-e2];simp
   obtain⟨gq,_⟩:=zA g.gj.gs hq;refine⟨ns,rs,_,r,zs,dp,m,t,ls,_,q0,rfl,g,gq,λvs hv=>?_⟩;have vn:=aVi hv.1;refine cC (λl ρ=>∃(dn rt:List Tk) (f:Tk->List U) (y z:Sl),l=rt.map tkU/\dn++rt=vs/\(∀z,f z=(don.filter λq=>lnB ns rs zs q z).map tkU++if z∈dn then [tkU q0]else [])/\ρ=aHg P w K N CG CJ sc k ns rs r zs dp m t ls f (.sh (tkU q0)) y z) ?_ ?_ ⟨[],vs,f,_,_,rfl,rfl,λz=>by rw [hf];simp,rfl⟩
   ·rintro ρ ⟨dn,rt,f,y,z,e1,e3,hf,rfl⟩;obtain rfl:rt=[]:=by
     cases rt with
     |nil=>rfl
     |cons=>cases e1
    rw [Bg]at e3;subst e3;refine ih2 _ ⟨don++[q0],rst,f,_,_,_,rfl,by rw [<-e2];simp,λz=>?_,rfl⟩;rw [hf,List.filter_append,Ay];congr 1;by_cases h:z∈dn
    ·rw [if_pos h,Ni (p:=λq=>lnB ns rs zs q z) (decide_eq_true ((hv.2 z).mp h))];rfl
    ·rw [if_neg h,Nj (p:=λq=>lnB ns rs zs q z) λe=>h ((hv.2 z).mpr (of_decide_eq_true e))];rfl
   ·rintro u3 l3 ρ ⟨dn,rt,f,y,z,e1,e3,hf,rfl⟩ ih3;cases rt with
    |nil=>cases e1
    |cons p0 rt=>
     cases e1;have hp:p0∈vs:=by rw [<-e3];simp
     refine⟨spS ns r.toNat,f,rfl,aQb _ _,p0,rfl,aSf g.gj.gs g.gj.el hq gy.gt ((hv.2 p0).mp hp),?_,ih3 _ ⟨dn++[p0],rt,_,_,_,rfl,by rw [<-e3];simp,λz=>?_,rfl⟩⟩
     ·rw [hf,Ag,Ab];have:=Og (λq=>lnB ns rs zs q p0) don;have:don.length<=(spS ns r.toNat).length:=by rw [<-e2];simp
      split
      ·show _+1<_;omega
      ·show _+0<_;omega
     ·unfold apf;by_cases h:z=p0
      ·subst h;have:z∉dn:=λy=>by
        rw [<-e3,Ig]at vn;exact vn.2.2 z y z Ae rfl
       rw [if_pos rfl,hf,if_neg this,if_pos (by simp),Bg]
      ·rw [if_neg h,hf];congr 1;by_cases h':z∈dn
       ·rw [if_pos h',if_pos (by simp [h'])]
       ·rw [if_neg h',if_neg (by simp [h',h])]
def aLg {sc:List Int} {dp m:Int} {E:aAk} {f:Tk->List U} {x y z:Sl} (g:GoodW ns rs r zs m t ls) (gy:aPh zs ns.length) (sl:(spS ns r.toNat).length<=480) (hf:∀z,f z=(rdS ns rs zs r.toNat z).map tkU) (q:∀x y z,E.nx (aHg P w K N CG CJ sc k ns rs r zs dp m t ls f x y z)):
  lY (kZ 5) (aNm (aUf 7 (aEp (uR N CG CJ) (qM (jE 3) (qM (jE 5) aBh))))
   (aNm (vIf (vOr (aVn (kO (aX9 Tg.ls (jE 7)))) (kO (vOp (λ{u v} {R}=>gEq true u v R) (jE 7) (vLg P w (jE 4) (jE 5))))) (aQl (vC (U.b false))) aJz)
    (aNm (aV4 7 (jE 5)) (aNm (vIf (kO (vOp (λ{u v} {R}=>gEq true u v R) (aH4 1 [("_law_job_here",3),("_law_spot",5)] (aYo (vLg P w (jE 4) (jE 5))) (λ{u} {ρ} {k}=>kZ 0 u ρ k) (kO (vOp (λ{u v} {R}=>gIn true u v R) (jE 2) (aEp (aEe N CG CJ) (qM (jE 1) (qM (jE 0) aBh))))) (jE 0)) (aWx aBh))) (aQl (vC (U.b false))) aJz)
     (vIf (aUx (kO (vOp (λ{u v} {R}=>gEq false u v R) (jE 5) (vOp (λ{u v} {R}=>gIx u v R) (aYh (jE 2) "spots") (vC (U.n 0))))) (kO (vOp (λ{u v} {R}=>gEq true u v R) (aEp (uR N CG CJ) (qM (jE 3) (qM (jE 5) aBh))) (vLg P w (jE 4) (jE 5))))) (aQl (vC (U.b false))) aJz))))) E ((spS ns r.toNat).map tkU) (aHg P w K N CG CJ sc k ns rs r zs dp m t ls f x y z):=by
 have yn:∀y∈zs,y.2.length=ns.length:=λy hy=>(gy.gt y hy).2;refine cC (λl ρ=>(∀u∈l,∃q∈spS ns r.toNat,u=tkU q)/\∃x y z:Sl,ρ=aHg P w K N CG CJ sc k ns rs r zs dp m t ls f x y z) ?_ ?_ ⟨λu hu=>?_,_,_,_,rfl⟩
 ·rintro ρ ⟨_,x,y,z,rfl⟩;exact q x y z
 ·rintro u2 l2 ρ ⟨hl2,x,y,z,rfl⟩ ih2;obtain⟨q0,hq,rfl⟩:=hl2 u2 Ae;have fl:((rdS ns rs zs r.toNat q0).map tkU).length<10000:=by
   rw [Ab];have:=Og (λq=>lnB ns rs zs q q0) (spS ns r.toNat);unfold rdS;omega
  refine⟨ns,rs,t,zs,m,r,ls,q0,rfl,g.gj.gs,g.gj.el,yn,gy.yl,g.gj.r0.1,g.gj.r0.2,?_⟩;refine⟨_,rfl,nofun,λ_=>⟨_,f,q0,rfl,rfl,hq,?_⟩⟩;rw [hf];have ne:∀{p:Prop},(!U.eq (.ls ((rdS ns rs zs r.toNat q0).map tkU)) (.ls ((rdS ns rs zs r.toNat q0).map tkU)))=true->p:=λh=>by
   rw [aUo]at h;cases h
  refine⟨jP 37 _,jP 37 _,λh=>ne h,λ_=>⟨fl,_,f,q0,rfl,rfl,hq,?_⟩⟩;rw [hf];refine⟨Eh fl,aAx (p:=λ_=>false) (λy hy c h1 h2=>?_) ?_⟩
  ·obtain⟨hy1,hy2⟩:=List.mem_filter.mp hy;obtain⟨gq,_⟩:=zA g.gj.gs hy1;refine⟨ns,rs,t,zs,m,r,ls,y,rfl,g.gj.gs,g.gj.el,gq.l,yn,gy.yl,λvs hv=>⟨(jP 38 [q0]).1,jP 38 _,?_⟩⟩;have e:((vs.map tkU).any λe=>e.eq (tkU q0))=true:=by
    rw [aIp];exact decide_eq_true ((hv.2 q0).mpr (of_decide_eq_true hy2))
   refine⟨λh=>?_,λ_=>h2 rfl⟩;have h:(!((vs.map tkU).any λe=>e.eq (tkU q0)))=true:=h;rw [e]at h;cases h
  ·rw [show(rdS ns rs zs r.toNat q0).filter (λ_=>false)=[] by simp];refine⟨trivial,trivial,nofun,λ_=>wF 9 rfl rfl ?_⟩;obtain⟨p0,hp⟩:∃p0,(spS ns r.toNat)[0]? =some p0:=⟨_,Ak (List.length_pos_of_mem hq)⟩;have a0:atI ((spS ns r.toNat).map tkU) 0=some (tkU p0):=sO (show((spS ns r.toNat).map tkU)[0]? =some (tkU p0) by rw [Az,hp];rfl);refine⟨_,a0,(jP 38 [q0]).1,(jP 38 [p0]).1,λ_=>?_,λ_=>⟨nofun,λ_=>ih2 _ ⟨λu hu=>hl2 u (Ad _ hu),_,_,_,rfl⟩⟩⟩;refine⟨ns,rs,t,zs,m,r,ls,q0,rfl,g.gj.gs,g.gj.el,yn,gy.yl,g.gj.r0.1,g.gj.r0.2,?_⟩;refine⟨_,f,q0,rfl,rfl,hq,?_⟩;rw [hf];exact⟨jP 37 _,jP 37 _,λh=>ne h,λ_=>ih2 _ ⟨λu hu=>hl2 u (Ad _ hu),_,_,_,rfl⟩⟩
 ·obtain⟨q0,hq,rfl⟩:=List.mem_map.mp hu;exact⟨q0,hq,rfl⟩
def aN0 (K:Ac):Fv:=λus R=>∃sc:List Int,us=[.op (aDr K sc)]/\R (.sh (.b true))
abbrev aYv:List Str:=["_law_script","_law_k","_law_world_here","_law_job_here","_law_due","_law_spot","_law_one","_law_found"]
def pR:aL ["_law_script","_law_k","_law_world_here","_law_job_here","_law_due","_law_spot","_law_one","_law_found"] ["_law_script"] (aC zL):=⟨rfl,rfl,rfl,by decide+kernel,rfl,by decide+kernel,by decide+kernel⟩
def aUa (F:Fun K "law" "law" zL f fd) (c__law_world:Cal P w K mg base CX0 30 "_law_world" ["_law_script","_law_k","_law_most"] (spV (aMt K))) (c__law_job:Cal P w K mg base CX0 30 "_law_job" ["_law_world_here"] (spV (aTj N CG CJ))) (c__law_leans:Cal P w K mg base CX0 2 "_law_leans" ["_law_world_here","_law_spot"] (spV aDc)) (c_leans_of:Cal P w K mg base CX0 6 "leans_of" ["job","spot"] (spV (aEe N CG CJ))) (c_readers_of:Cal P w K mg base CX0 7 "readers_of" ["job","spot"] (spV (uR N CG CJ))) (T:Txt mg):bB P w K mg base CX0 31 f fd ["_law_script"] (spV (aN0 K)):=by
 refine vfn F pR (λcdv A outer s H E hr=>(aD (eV Bd rfl (wN T.range (aP aF (aP aF aY))) (dR (i:=1) pR.nd) (aD (bD (i:=2) pR.nd (aO c__law_world (hr.mono (by decide)) rfl (aB (aA 0) (aB (aA 1) (aB aF aH))))) (aD (bD (i:=3) pR.nd (aO c__law_job (hr.mono (by decide)) rfl (aB (aA 2) aH))) (aD (bD (i:=4) pR.nd (aW1 (P:=P) (w:=w) (y:="_law_spot") rfl rfl hr (by decide+kernel) rfl T.dict (vic (bT (jO (oJ hr) (aA 2)))) (λcl C s2 H2 fp=>(bL (i:=0) (show(["_law_spot"]:List Str).Nodup by decide+kernel) rfl (Bu rfl) (Bz rfl))) (cT (by decide)) (λcl C s2 H2 fp=>aPv (aN (lD rfl (Bu rfl)) (aN (aHj aZ) aZ))))) (aD (eV Bd rfl (bT (jO (oJ hr) (aA 2))) (dR (i:=5) pR.nd) (aG (eV Bd rfl (bT (aO c__law_leans (hr.mono (by decide)) rfl (aB (aA 2) (aB (aA 5) aH)))) (dR (i:=6) pR.nd) (aG (aQs (P:=P) (w:=w) 4 rfl rfl hr (aA 6) (aA 5)))))) (aG (eV Bd rfl (bT (jO (oJ hr) (aA 2))) (dR (i:=5) pR.nd) (aD (bD (i:=7) pR.nd (aO c_readers_of (hr.mono (by decide)) rfl (aB (aA 3) (aB (aA 5) aH)))) (aD (cW (tR (xH (gF (iG (rK .ls nofun T.isinstance T.list Ja (aA 7)))) (qU (bW (wX (huD hr)) jH (aA 7) (aMr (P:=P) (w:=w) rfl rfl hr (aA 4) (aA 5)))))) (aG (aV tG)) bK) (aD (aAf 7 (aA 5)) (aD (cW (bW (wX (huD hr)) jH (aHv (own:=["_law_one"]) (cap:=[("_law_job_here",3),("_law_spot",5)]) (aC zL) aYv rfl rfl (λx h=>bO h) (by decide+kernel) rfl (aZr (aMr (P:=P) (w:=w) rfl rfl hr (aA 4) (aA 5))) (λcl C s2 H2 fp=>(bL (i:=0) (show(["_law_one","_law_job_here","_law_spot"]:List Str).Nodup by decide+kernel) rfl (Bu rfl) (Bz rfl))) (cT (by decide)) (λcl C s2 H2 fp=>(bW (wK (huD hr)) aE0 (aA 2) (aO c_leans_of (hr.mono (by decide)) rfl (aB (aA 1) (aB (aA 0) aH))))) (λcl C s2 H2 fp=>(aA 0))) (cD aH)) (aG (aV tG)) bK) (aG (cW (tR (aM2 (bW (lA (huD hr)) jH (aA 5) (bU bC bV (jO (oJ hr) (aA 2)) aF)) (aJk (bW (wX (huD hr)) jH (aO c_readers_of (hr.mono (by decide)) rfl (aB (aA 3) (aB (aA 5) aH))) (aMr (P:=P) (w:=w) rfl rfl hr (aA 4) (aA 5)))))) (aG (aV tG)) bK))))))))))))) (aG (aV tG)))) ?_;rintro _ R ⟨sc,rfl,q⟩;refine⟨rfl,⟨by decide,by decide,by decide,by decide⟩,?_⟩;refine cC (λl ρ=>(∀u∈l,∃k:Nat,u= .n (k:Int))/\∃a b c d e x y:Sl,ρ=[.sh (.op (aDr K sc)),a,b,c,d,e,x,y]) ?_ ?_ ⟨λu hu=>?_,_,_,_,_,_,_,_,rfl⟩
 ·rintro ρ ⟨_,a,b,c,d,e,x,y,rfl⟩;exact q
 ·rintro u l ρ ⟨hl,a,b,c,d,e,x,y,rfl⟩ ih;obtain⟨k,rfl⟩:=hl u Ae;refine⟨sc,k,24,rfl,by decide,by decide,λns rs r ys dp m t ls g=>?_⟩;rw [aHk];refine⟨ns,rs,_,r,ys,dp,m,t,ls,_,rfl,g,λzs hz=>?_⟩;obtain rfl:zs=ys:=hz.uniq g.tk;have gy:=aSk g.gj.ok g.gj.ln g.tk;have sl:=aJ0 g.gj.gs g.gj.r0.2;refine wF 9 rfl rfl ⟨spS ns r.toNat,rfl,aQb _ _,by omega,wF 9 rfl rfl ?_⟩;refine aMc (N:=N) (CG:=CG) (CJ:=CJ) (sc:=sc) (k:=k) (dp:=dp) g gy sl λf x y z hf=>wF 9 rfl rfl (aLg (k:=k) g gy sl hf λx y z=>?_);exact ih _ ⟨λu hu=>hl u (Ad _ hu),_,_,_,_,_,_,_,rfl⟩
 ·unfold qK at hu;obtain⟨i,_,rfl⟩:=List.mem_map.mp hu;exact⟨1+i,by simp⟩
def tag:Tm->Nat
 | .num _=>0
 | .take _ _=>1
 | .rest _ _=>2
 | .cho _ _ _=>3
 | .bin k _ _=>4+k.val
def zH (N:Cn):List Addr:=[N.num,N.take,N.rest,N.cho,N.bin 0,N.bin 1,N.bin 2,N.bin 3,N.bin 4]
def aIb (N:Cn):∀t:Tm,(zH N)[tag t]? =some (cls N t)
 | .num _=>rfl
 | .take _ _=>rfl
 | .rest _ _=>rfl
 | .cho _ _ _=>rfl
 | .bin k _ _=>by
  match k with
  |0=>rfl
  |1=>rfl
  |2=>rfl
  |3=>rfl
  |4=>rfl
def aAi {N:Cn} (nd:(zH N).Nodup) {t u:Tm} (h:cls N t=cls N u):tag t=tag u:=by
 have h1:=aIb N t;have h2:=aIb N u;rw [h]at h1;exact(List.getElem?_inj (List.getElem?_eq_some_iff.mp h1).1 nd).mp (h1.trans h2.symm)
def aMd {N:Cn} (nd:(zH N).Nodup) (h:cls N t=N.num):∃n,t= .num n:=by
 have:=aAi nd (u:= .num 0) h;cases t<;>simp [tag]at this<;>first|exact⟨_,rfl⟩|omega
def aD6 {N:Cn} (nd:(zH N).Nodup) (h:cls N t=N.take):∃b ss,t= .take b ss:=by
 have:=aAi nd (u:= .take 0 []) h;cases t<;>simp [tag]at this<;>first|exact⟨_,_,rfl⟩|omega
def aI1 {N:Cn} (nd:(zH N).Nodup) (h:cls N t=N.rest):∃a y,t= .rest a y:=by
 have:=aAi nd (u:= .rest (.num 0) 0) h;cases t<;>simp [tag]at this<;>first|exact⟨_,_,rfl⟩|omega
def aU5 {N:Cn} (nd:(zH N).Nodup) (h:cls N t=N.cho):∃a b c,t= .cho a b c:=by
 have:=aAi nd (u:= .cho (.num 0) (.num 0) (.num 0)) h;cases t<;>simp [tag]at this<;>first|exact⟨_,_,_,rfl⟩|omega
def aVo {N:Cn} (nd:(zH N).Nodup) {k:Fin 5} (h:cls N t=N.bin k):∃a b,t= .bin k a b:=by
 have:=aAi nd (u:= .bin k (.num 0) (.num 0)) h;cases t with
 |bin j a b=>
  have e:j=k:=Fin.ext (by simp only [tag]at this;omega);exact⟨a,b,by rw [e]⟩
 |_=>simp [tag]at this<;>omega
def knS {P:List Value->Prop} (h:us.length=n+1) (k:∀a t,t.length=n->P (a::t)):P us:=by
 cases us with
 |nil=>cases h
 |cons a t=>exact k a t (Ez h)
def kn1 {P:List Value->Prop} (h:us.length=1) (k:∀a,P [a]):P us:=knS h λa t ht=>by cases t with|nil=>exact k a|cons=>cases ht
def kn2 {P:List Value->Prop} (h:us.length=2) (k:∀a b,P [a,b]):P us:=knS h λa t ht=>kn1 (P:=λt=>P (a::t)) ht λb=>k a b
def kn3 {P:List Value->Prop} (h:us.length=3) (k:∀a b c,P [a,b,c]):P us:=knS h λa t ht=>kn2 (P:=λt=>P (a::t)) ht λb c=>k a b c
def kn4 {P:List Value->Prop} (h:us.length=4) (k:∀a b c d,P [a,b,c,d]):P us:=knS h λa t ht=>kn3 (P:=λt=>P (a::t)) ht λb c d=>k a b c d
def kn5 {P:List Value->Prop} (h:us.length=5) (k:∀a b c d e,P [a,b,c,d,e]):P us:=knS h λa t ht=>kn4 (P:=λt=>P (a::t)) ht λb c d e=>k a b c d e
def kn6 {P:List Value->Prop} (h:us.length=6) (k:∀a b c d e f,P [a,b,c,d,e,f]):P us:=knS h λa t ht=>kn5 (P:=λt=>P (a::t)) ht λb c d e f=>k a b c d e f
def kb1 {fd:FuncData} (h:us.length=1) (k:∀a,bindArgs fd ⟨[a],[]⟩=pure (ps.zip [a])):bindArgs fd ⟨us,[]⟩=pure (ps.zip us):=kn1 (P:=λus=>bindArgs fd ⟨us,[]⟩=pure (ps.zip us)) h k
def kb2 {fd:FuncData} (h:us.length=2) (k:∀a b,bindArgs fd ⟨[a,b],[]⟩=pure (ps.zip [a,b])):bindArgs fd ⟨us,[]⟩=pure (ps.zip us):=kn2 (P:=λus=>bindArgs fd ⟨us,[]⟩=pure (ps.zip us)) h k
def kb3 {fd:FuncData} (h:us.length=3) (k:∀a b c,bindArgs fd ⟨[a,b,c],[]⟩=pure (ps.zip [a,b,c])):bindArgs fd ⟨us,[]⟩=pure (ps.zip us):=kn3 (P:=λus=>bindArgs fd ⟨us,[]⟩=pure (ps.zip us)) h k
def kb4 {fd:FuncData} (h:us.length=4) (k:∀a b c d,bindArgs fd ⟨[a,b,c,d],[]⟩=pure (ps.zip [a,b,c,d])):bindArgs fd ⟨us,[]⟩=pure (ps.zip us):=kn4 (P:=λus=>bindArgs fd ⟨us,[]⟩=pure (ps.zip us)) h k
def kb6 {fd:FuncData} (h:us.length=6) (k:∀a b c d e f,bindArgs fd ⟨[a,b,c,d,e,f],[]⟩=pure (ps.zip [a,b,c,d,e,f])):bindArgs fd ⟨us,[]⟩=pure (ps.zip us):=kn6 (P:=λus=>bindArgs fd ⟨us,[]⟩=pure (ps.zip us)) h k
abbrev GN (K:Ac) (n:Str) (f:Addr):Prop:=PySem.W.nsIn K mainGlobals n=some (some (.ref f))
abbrev FI (K:Ac) (C:Addr) (n:Str) (f:Addr):Prop:=Di K (.ref C) n=some (some (.ref f))
structure CK (K:Ac) (C:Addr) (fs:List Str):Prop where
 c:Cls K C
 na:∀f∈fs,kY K C f
 ms:Kr K C=true
 kc:Fs K (.ref C)=true
def CK.cf {K:Ac} {C:Addr} (h:CK K C fs):Cf K C fs:=⟨h.c,h.na⟩
def CK.fl {K:Ac} {C:Addr} (h:CK K C fs):Cfl K C fs:=⟨h.c,h.na⟩
def na0 {K:Ac} {C:Addr}:∀f∈([]:List Str),kY K C f:=λ_ h=>nomatch h
def naS {K:Ac} {C:Addr} {x:Str} {l:List Str} (h:Di K (.ref C) x=some none) (k:∀f∈l,kY K C f):∀f∈x::l,kY K C f:=λf hf=>(List.mem_cons.mp hf).elim (λe=>e▸h) (k f)
def mth {K:Ac} {C D f:Addr} {n:Str} (h:Meth K C n f) (g:FI K D n f):Meth K D n f:=⟨g,h.fn,h.kp⟩
def mkO {K:Ac} {C f:Addr} (h:CK K C fs) (g:Meth K C "__init__" f):Mk K C f:=⟨h.ms,g.at_,g.fn,h.kc⟩
def fb1 (a:Str) {st:Stmt} {f:Addr} {fd:FuncData} (F:Fun K x q st f fd) (h:∀kV doc pm an cdv ct u,bindArgs (Em x q (jU st) (fU st) (aC st) .none kV doc pm an cdv ct) ⟨[u],[]⟩=pure ([a].zip [u]):=by intros;rfl):Binds K fd [a] []:=F.binds λ_ _ _ _ _ _ us hl=>kb1 hl (h _ _ _ _ _ _)
def fb2 (a b:Str) {st:Stmt} {f:Addr} {fd:FuncData} (F:Fun K x q st f fd) (h:∀kV doc pm an cdv ct u v,bindArgs (Em x q (jU st) (fU st) (aC st) .none kV doc pm an cdv ct) ⟨[u,v],[]⟩=pure ([a,b].zip [u,v]):=by intros;rfl):Binds K fd [a,b] []:=F.binds λ_ _ _ _ _ _ us hl=>kb2 hl (h _ _ _ _ _ _)
def fb3 (a b c:Str) {st:Stmt} {f:Addr} {fd:FuncData} (F:Fun K x q st f fd) (h:∀kV doc pm an cdv ct u v y,bindArgs (Em x q (jU st) (fU st) (aC st) .none kV doc pm an cdv ct) ⟨[u,v,y],[]⟩=pure ([a,b,c].zip [u,v,y]):=by intros;rfl):Binds K fd [a,b,c] []:=F.binds λ_ _ _ _ _ _ us hl=>kb3 hl (h _ _ _ _ _ _)
def fb4 (a b c d:Str) {st:Stmt} {f:Addr} {fd:FuncData} (F:Fun K x q st f fd) (h:∀kV doc pm an cdv ct u v y z,bindArgs (Em x q (jU st) (fU st) (aC st) .none kV doc pm an cdv ct) ⟨[u,v,y,z],[]⟩=pure ([a,b,c,d].zip [u,v,y,z]):=by intros;rfl):Binds K fd [a,b,c,d] []:=F.binds λ_ _ _ _ _ _ us hl=>kb4 hl (h _ _ _ _ _ _)
def fb6 (a b c d e g:Str) {st:Stmt} {f:Addr} {fd:FuncData} (F:Fun K x q st f fd) (h:∀kV doc pm an cdv ct u v y z o p,bindArgs (Em x q (jU st) (fU st) (aC st) .none kV doc pm an cdv ct) ⟨[u,v,y,z,o,p],[]⟩=pure ([a,b,c,d,e,g].zip [u,v,y,z,o,p]):=by intros;rfl):Binds K fd [a,b,c,d,e,g] []:=F.binds λ_ _ _ _ _ _ us hl=>kb6 hl (h _ _ _ _ _ _)
def sU {CX:CXT} {f:Addr} {fd:FuncData} {sp:Sp} (h:∀vs H Q E,¬sp vs H Q E):bB P w K mg base CX k f fd ps sp:=
 ⟨λvs H Q E z=>absurd z (h vs H Q E),λ_ _ _ H _ _ vs Q E _ _ _ _ z=>absurd z (h vs H Q E)⟩
def aKr (nd:(zH N).Nodup) (F1:Fun K "inner" "Term.inner" lQ f1 g1) (F2:Fun K "inner" "Paired.inner" iV f2 g2) (F3:Fun K "inner" "Rest.inner" lM f3 g3) (F4:Fun K "inner" "Chosen.inner" jB f4 g4)
  (cl:∀C,IsC N C->Cls K C) (c3:Cfl K N.rest ["one","by"]) (c4:Cfl K N.cho ["test","one","other"]) (c5:∀k,Cfl K (N.bin k) ["one","other"])
  (m1:Meth K N.num "inner" f1) (m2:Meth K N.take "inner" f1) (m3:Meth K N.rest "inner" f3) (m4:Meth K N.cho "inner" f4) (m5:∀k,Meth K (N.bin k) "inner" f2):kW P w K mg base N 1 "inner" (iW N):=by
 refine⟨λC hC=>⟨cl C hC,?_⟩⟩;rcases hC with rfl|rfl|rfl|rfl|⟨k,rfl⟩
 ·exact⟨f1,g1,m1,aCs F1 (λt h=>by obtain⟨n,rfl⟩:=aMd nd h;rfl),fb1 "self" F1⟩
 ·exact⟨f1,g1,m2,aCs F1 (λt h=>by obtain⟨b,ss,rfl⟩:=aD6 nd h;rfl),fb1 "self" F1⟩
 ·exact⟨f3,g3,m3,aLm F3 c3 λt h=>aI1 nd h,fb1 "self" F3⟩
 ·exact⟨f4,g4,m4,aKf F4 c4 λt h=>aU5 nd h,fb1 "self" F4⟩
 ·exact⟨f2,g2,m5 k,aLh F2 (c5 k) λt h=>aVo nd h,fb1 "self" F2⟩
theorem aBs {f1 f2:Addr} {g1 g2:FuncData} (nd:(zH N).Nodup) (F1:Fun K "takes" "Term.takes" lO f1 g1) (F2:Fun K "takes" "Take.takes" lV f2 g2) (cl:∀C,IsC N C->Cls K C) (c2:Cfl K N.take ["back","steps"])
  (m1:∀C,IsC N C->C≠N.take->Meth K C "takes" f1) (m2:Meth K N.take "takes" f2) (D_inner:kW P w K mg base N 1 "inner" (iW N)) (T:Txt mg):∀d,kW P w K mg base N (d+1) "takes" (rT N d)
 |0=>⟨λC hC=>⟨cl C hC,by
   have no:∀vs H Q E,¬spV (rT N 0 C) vs H Q E:=λvs H Q E ⟨_,_,_,_,_,_,⟨t,_,_,h,_⟩,_⟩=>absurd (pI t) (by omega);by_cases e:C=N.take
   ·subst e;exact⟨f2,g2,m2,sU no,fb1 "self" F2⟩
   ·exact⟨f1,g1,m1 C hC e,sU no,fb1 "self" F1⟩⟩⟩
 |d+1=>⟨λC hC=>⟨cl C hC,by
   by_cases e:C=N.take
   ·subst e;exact⟨f2,g2,m2,aLt F2 c2 λt h=>aD6 nd h,fb1 "self" F2⟩
   ·exact⟨f1,g1,m1 C hC e,aLa F1 (λt h b ss z=>e (by rw [<-h,z];rfl)) D_inner (aBs nd F1 F2 cl c2 m1 m2 D_inner T d) T,fb1 "self" F1⟩⟩⟩
theorem aCi {f1:Addr} {g1:FuncData} (F1:Fun K "depth" "Term.depth" iJ f1 g1) (cl:∀C,IsC N C->Cls K C) (m1:∀C,IsC N C->Meth K C "depth" f1) (D_inner:kW P w K mg base N 1 "inner" (iW N)) (T:Txt mg):∀d,kW P w K mg base N (d+1) "depth" (aEu N ht d)
 |0=>⟨λC hC=>⟨cl C hC,f1,g1,m1 C hC,sU (λvs H Q E ⟨_,_,_,_,_,_,⟨t,_,_,h,_⟩,_⟩=>absurd (pI t) (by omega)),fb1 "self" F1⟩⟩
 |d+1=>⟨λC hC=>⟨cl C hC,f1,g1,m1 C hC,aKj F1 D_inner (aCi F1 cl m1 D_inner T d) T,fb1 "self" F1⟩⟩
theorem aCc {f1:Addr} {g1:FuncData} (F1:Fun K "parts" "Term.parts" jA f1 g1) (cl:∀C,IsC N C->Cls K C) (m1:∀C,IsC N C->Meth K C "parts" f1) (D_inner:kW P w K mg base N 1 "inner" (iW N)) (T:Txt mg):∀d,kW P w K mg base N (d+1) "parts" (aEu N dG d)
 |0=>⟨λC hC=>⟨cl C hC,f1,g1,m1 C hC,sU (λvs H Q E ⟨_,_,_,_,_,_,⟨t,_,_,h,_⟩,_⟩=>absurd (pI t) (by omega)),fb1 "self" F1⟩⟩
 |d+1=>⟨λC hC=>⟨cl C hC,f1,g1,m1 C hC,aLk F1 D_inner (aCc F1 cl m1 D_inner T d) T,fb1 "self" F1⟩⟩
theorem aQe {f:Addr} {fd:FuncData} (F:Fun K "first_fault" "first_fault" jQ f fd) (m:mg "first_fault"=some (.ref f)) (D_inner:kW P w K mg base N 1 "inner" (iW N)) (D_fault:kW P w K mg base N 4 "own_fault" (rN N)):∀d,Cal P w K mg base CX0 (d+4) "first_fault" ["term"] (spV (fFF N d))
 |0=>⟨_,_,sU (λvs H Q E ⟨_,_,_,_,_,_,⟨t,_,h,_⟩,_⟩=>absurd (pI t) (by omega)),m,F.kp,fb1 "term" F⟩
 |d+1=>⟨_,_,aW2 F (aQe F m D_inner D_fault d) D_inner D_fault,m,F.kp,fb1 "term" F⟩
def aKq (nd:(zH N).Nodup) (F1:Fun K "own_fault" "Term.own_fault" fZ f1 g1) (F2:Fun K "own_fault" "Number.own_fault" eG f2 g2) (F3:Fun K "own_fault" "Take.own_fault" gC f3 g3) (F4:Fun K "own_fault" "Rest.own_fault" gA f4 g4)
  (cl:∀C,IsC N C->Cls K C) (c1:Cfl K N.num ["value"]) (c2:Cfl K N.take ["back","steps"]) (c3:Cfl K N.rest ["one","by"])
  (c_within:Cal P w K mg base CX0 2 "is_within" PW3 (spV jV)) (c_steps:Cal P w K mg base CX0 3 "are_steps" ["thing"] (spV aHt)) (T:Txt mg)
  (m1:Meth K N.num "own_fault" f2) (m2:Meth K N.take "own_fault" f3) (m3:Meth K N.rest "own_fault" f4) (m4:Meth K N.cho "own_fault" f1) (m5:∀k,Meth K (N.bin k) "own_fault" f1):kW P w K mg base N 4 "own_fault" (rN N):=by
 refine⟨λC hC=>⟨cl C hC,?_⟩⟩;rcases hC with rfl|rfl|rfl|rfl|⟨k,rfl⟩
 ·exact⟨f2,g2,m1,aKo F2 c1 (λt h=>aMd nd h) c_within T,fb1 "self" F2⟩
 ·exact⟨f3,g3,m2,aKe F3 c2 (λt h=>aD6 nd h) c_within c_steps T,fb1 "self" F3⟩
 ·exact⟨f4,g4,m3,aK7 F4 c3 (λt h=>aI1 nd h) c_within T,fb1 "self" F4⟩
 ·exact⟨f1,g1,m4,aCv F1,fb1 "self" F1⟩
 ·exact⟨f1,g1,m5 k,aCv F1,fb1 "self" F1⟩
def iU {CR f:Addr} {fd:FuncData} {m:Str} {sp:Sp} (cl:Cls K CR) (h:Meth K CR m f) (b:Binds K fd ps []) (F:bB P w K mg base CX0 k f fd ps sp):Dis P w K mg base CX0 k (·=CR) m ps λ_=>sp:=⟨λC hC=>by
 have hC:C=CR:=hC;subst hC;exact⟨cl,f,fd,h,F,b⟩⟩
theorem aEw {CR fB fE fP:Addr} {gB gE gP:FuncData} (cl:Cls K CR) (n:aFn N CR) (M:aEs P w K mg base N) (T:KR.Txt K mg) (F1:Fun K "read_bracket" "TermReader.read_bracket" uN fB gB) (F2:Fun K "read_behind" "TermReader.read_behind" sV fE gE) (F3:Fun K "read_part" "TermReader.read_part" zB fP gP)
  (m1:Meth K CR "read_bracket" fB) (m2:Meth K CR "read_behind" fE) (m3:Meth K CR "read_part" fP)
  (D_ahead:DR P w K mg base 1 CR "ahead" ["self"] (lL CR)) (D_pass_by:DR P w K mg base 2 CR "pass_by" ["self","signs"] (qZ CR)) (D_read_figures:DR P w K mg base 3 CR "read_figures" ["self"] (aD0 CR)) (D_read_number:DR P w K mg base 4 CR "read_number" ["self"] (aD1 CR)) (D_read_take:DR P w K mg base 5 CR "read_take" ["self"] (aC2 N CR)) (D_read_word:DR P w K mg base 3 CR "read_word" ["self"] (aG1 CR)) (c_pairBy:Cal P w K mg base CX0 3 "pair_by" ["word","one","other"] (zR N)):∀d,DR P w K mg base (3*d+3) CR "read_part" ["self","within"] (aAg N CR d)
 |0=>iU cl m3 (fb2 "self" "within" F3) (sU λvs H Q E ⟨_,_,_,t,_,_,_,_,_,_,_,h,_,_,_⟩=>absurd (pI t) (by omega))
 |d+1=>by
  have D:=aEw cl n M T F1 F2 F3 m1 m2 m3 D_ahead D_pass_by D_read_figures D_read_number D_read_take D_read_word c_pairBy d;have DE:=iU cl m2 (fb4 "self" "one" "word" "within" F2) (aKw F2 n M D_pass_by D_read_figures D c_pairBy);have DB:=iU cl m1 (fb2 "self" "within" F1) (aPe F1 n D_pass_by D_read_word D DE T);exact iU cl m3 (fb2 "self" "within" F3) (aRr F3 M D_ahead D_read_number D_read_take DB)
def aVj {a:Addr} {E:XK} (h:SqL K H a (ns.map V.int)):spV (aN0 K) [.ref a] H (λv _=>v= .bl true) E:=
 ⟨λ_=>False,λ_=>False,[.op (aDr K ns)],λs=>s= .sh (.b true),⟨nofun,nofun,nofun⟩,⟨_,_,rfl,⟨a,rfl,h.imp (λh=>⟨id,h⟩) λh _=> .inr h⟩,rfl⟩,⟨ns,rfl,rfl⟩,λs v H' hs _ r=>by
  subst hs;exact r.1⟩
def aUu {l:W.OpenLaw} {w:World} {K:W.Frag} {h:Heap} {mg:Str->Option Value} {fa aW Cnum Ctake Crest Ccho Cb0 Cb1 Cb2 Cb3 Cb4 CR CG CJ f10 f11 f12 f13 f14 f15 f16 f17 f18 f19 f20 f21 f22 f23 f24 f25 f26 f27 f28 f29 f30 f31 f32 f33 f34 f35 f36 f37 f38 f39 f40 f41 f42 f43 f44 f45 f46 f47 f48 f49 f50 f51 f52 f53 f54 f55 f56 f57 f58 f59 f60 f61 f62 f63 f64 f65 f66 f67 f68 f69 f70 f71 f72 f73 f74 f75 f76 f77 f78 f79:Addr} {g10 g11 g12 g13 g14 g15 g16 g17 g18 g19 g20 g21 g22 g23 g24 g25 g26 g27 g28 g29 g30 g31 g32 g33 g34 g35 g36 g37 g38 g39 g40 g41 g42 g43 g44 g45 g46 g47 g48 g49 g50 g51 g52 g53 g54 g55 g56 g57 g58 g59 g60 g61 g62 g63 g64 g65 g66 g67 g68 g69 g70 g71 g72 g73 g74 g75 g76 g77 g78 g79:FuncData} {odW:Option Addr} {nW:Nat} {slW:Array (Option Value)} {tF tW1 tW2 tW3 tW4 tW5 tW6 tW7 t_GREATEST_NUMBER t_GREATEST_DIVISOR t_GREATEST_BACK t_GREATEST_STEP t_MOST_STEPS_terms t_MOST_DEPTH t_MOST_PARTS t_MOST_TAKES t_GREATEST_MODULUS t_MOST_ROUNDS t_MOST_SPOTS t_GREATEST_FIXED t_MOST_LINES t_GREATEST_SIZE t_MOST_PLACES t_MOST_FIGURES t_MOST_STEPS_term_texts t_MOST_WITHIN:Tok} (X:K.In h) (G:h.Ns mainGlobals mg) (hfa:mg "law"=some (.ref fa))
  (aCnum:GN K "Number" Cnum) (aCtake:GN K "Take" Ctake) (aCrest:GN K "Rest" Crest) (aCcho:GN K "Chosen" Ccho)
  (aCb0:GN K "Added" Cb0) (aCb1:GN K "Lessened" Cb1) (aCb2:GN K "Multiplied" Cb2) (aCb3:GN K "Least" Cb3)
  (aCb4:GN K "Most" Cb4) (aCR:GN K "TermReader" CR) (aCG:GN K "Grid" CG) (aCJ:GN K "Job" CJ)
  (a10:GN K "is_whole" f10) (F10:Fun K "is_whole" "is_whole" uC f10 g10) (a11:GN K "is_within" f11) (F11:Fun K "is_within" "is_within" rE f11 g11)
  (a12:GN K "is_rim" f12) (F12:Fun K "is_rim" "is_rim" aAc f12 g12) (a13:GN K "product" f13) (F13:Fun K "product" "product" wQ f13 g13)
  (a14:GN K "check_lines" f14) (F14:Fun K "check_lines" "check_lines" nY f14 g14) (a15:GN K "are_steps" f15) (F15:Fun K "are_steps" "are_steps" nG f15 g15)
  (a16:GN K "lines_of" f16) (F16:Fun K "lines_of" "lines_of" oZ f16 g16) (a17:GN K "first_fault" f17) (F17:Fun K "first_fault" "first_fault" jQ f17 g17)
  (a18:GN K "check_term" f18) (F18:Fun K "check_term" "check_term" qH f18 g18) (a19:GN K "read_term" f19) (F19:Fun K "read_term" "read_term" rY f19 g19)
  (a20:GN K "is_row" f20) (F20:Fun K "is_row" "is_row" uZ f20 g20) (a21:GN K "are_rows" f21) (F21:Fun K "are_rows" "are_rows" pQ f21 g21)
  (a22:GN K "_law_cell" f22) (F22:Fun K "_law_cell" "_law_cell" rZ f22 g22) (a23:GN K "_law_mixed" f23) (F23:Fun K "_law_mixed" "_law_mixed" pN f23 g23)
  (a24:GN K "_law_twice" f24) (F24:Fun K "_law_twice" "_law_twice" pO f24 g24) (a25:GN K "_law_draw" f25) (F25:Fun K "_law_draw" "_law_draw" qY f25 g25)
  (a26:GN K "_law_well" f26) (F26:Fun K "_law_well" "_law_well" rJ f26 g26) (a27:GN K "_law_lines" f27) (F27:Fun K "_law_lines" "_law_lines" iQ f27 g27)
  (a28:GN K "_law_take" f28) (F28:Fun K "_law_take" "_law_take" mW f28 g28) (a29:GN K "_law_term" f29) (F29:Fun K "_law_term" "_law_term" nC f29 g29)
  (a30:GN K "_law_world" f30) (F30:Fun K "_law_world" "_law_world" cA f30 g30) (a31:GN K "_law_job" f31) (F31:Fun K "_law_job" "_law_job" uD f31 g31)
  (a32:GN K "law" f32) (F32:Fun K "law" "law" zL f32 g32) (a33:GN K "number_by_rim" f33) (F33:Fun K "number_by_rim" "number_by_rim" lB f33 g33)
  (a34:GN K "mirrored" f34) (F34:Fun K "mirrored" "mirrored" uI f34 g34) (a35:GN K "with_line" f35) (F35:Fun K "with_line" "with_line" rA f35 g35)
  (a36:GN K "leans_of" f36) (F36:Fun K "leans_of" "leans_of" pL f36 g36) (a37:GN K "readers_of" f37) (F37:Fun K "readers_of" "readers_of" lR f37 g37)
  (a38:GN K "_law_along" f38) (F38:Fun K "_law_along" "_law_along" qJ f38 g38) (a39:GN K "_law_leans" f39) (F39:Fun K "_law_leans" "_law_leans" pZ f39 g39)
  (a40:GN K "pair_by" f40) (F40:Fun K "pair_by" "pair_by" aOk f40 g40) (a41:GN K "read_written" f41) (F41:Fun K "read_written" "read_written" aAu f41 g41)
  (M42:Meth K Cnum "inner" f42) (F42:Fun K "inner" "Term.inner" lQ f42 g42) (M43:Meth K Cnum "takes" f43) (F43:Fun K "takes" "Term.takes" lO f43 g43)
  (M44:Meth K Cnum "depth" f44) (F44:Fun K "depth" "Term.depth" iJ f44 g44) (M45:Meth K Cnum "parts" f45) (F45:Fun K "parts" "Term.parts" jA f45 g45)
  (M46:Meth K Ccho "own_fault" f46) (F46:Fun K "own_fault" "Term.own_fault" fZ f46 g46) (M47:Meth K Cnum "__init__" f47) (F47:Fun K "__init__" "Number.__init__" aHf f47 g47)
  (M48:Meth K Cnum "own_fault" f48) (F48:Fun K "own_fault" "Number.own_fault" eG f48 g48) (M49:Meth K Ctake "__init__" f49) (F49:Fun K "__init__" "Take.__init__" aHa f49 g49)
  (M50:Meth K Ctake "takes" f50) (F50:Fun K "takes" "Take.takes" lV f50 g50) (M51:Meth K Ctake "own_fault" f51) (F51:Fun K "own_fault" "Take.own_fault" gC f51 g51)
  (M52:Meth K Cb0 "__init__" f52) (F52:Fun K "__init__" "Paired.__init__" aHe f52 g52) (M53:Meth K Cb0 "inner" f53) (F53:Fun K "inner" "Paired.inner" iV f53 g53)
  (M54:Meth K Crest "__init__" f54) (F54:Fun K "__init__" "Rest.__init__" aGt f54 g54) (M55:Meth K Crest "inner" f55) (F55:Fun K "inner" "Rest.inner" lM f55 g55)
  (M56:Meth K Crest "own_fault" f56) (F56:Fun K "own_fault" "Rest.own_fault" gA f56 g56) (M57:Meth K Ccho "__init__" f57) (F57:Fun K "__init__" "Chosen.__init__" aGu f57 g57)
  (M58:Meth K Ccho "inner" f58) (F58:Fun K "inner" "Chosen.inner" jB f58 g58) (M59:Meth K CR "__init__" f59) (F59:Fun K "__init__" "TermReader.__init__" aDd f59 g59)
  (M60:Meth K CR "ahead" f60) (F60:Fun K "ahead" "TermReader.ahead" aAm f60 g60) (M61:Meth K CR "pass_by" f61) (F61:Fun K "pass_by" "TermReader.pass_by" aC5 f61 g61)
  (M62:Meth K CR "figure_is_ahead" f62) (F62:Fun K "figure_is_ahead" "TermReader.figure_is_ahead" aGq f62 g62) (M63:Meth K CR "read_figures" f63) (F63:Fun K "read_figures" "TermReader.read_figures" aDg f63 g63)
  (M64:Meth K CR "read_number" f64) (F64:Fun K "read_number" "TermReader.read_number" aHm f64 g64) (M65:Meth K CR "read_take" f65) (F65:Fun K "read_take" "TermReader.read_take" aDj f65 g65)
  (M66:Meth K CR "read_word" f66) (F66:Fun K "read_word" "TermReader.read_word" yU f66 g66) (M67:Meth K CR "read_bracket" f67) (F67:Fun K "read_bracket" "TermReader.read_bracket" uN f67 g67)
  (M68:Meth K CR "read_behind" f68) (F68:Fun K "read_behind" "TermReader.read_behind" sV f68 g68) (M69:Meth K CR "read_part" f69) (F69:Fun K "read_part" "TermReader.read_part" zB f69 g69)
  (M70:Meth K CG "__init__" f70) (F70:Fun K "__init__" "Grid.__init__" lC f70 g70) (M71:Meth K CG "lines" f71) (F71:Fun K "lines" "Grid.lines" qC f71 g71)
  (M72:Meth K CG "places_many" f72) (F72:Fun K "places_many" "Grid.places_many" iD f72 g72) (M73:Meth K CJ "__init__" f73) (F73:Fun K "__init__" "Job.__init__" iY f73 g73)
  (M74:Meth K CJ "deep" f74) (F74:Fun K "deep" "Job.deep" pJ f74 g74) (M75:Meth K CG "beside" f75) (F75:Fun K "beside" "Grid.beside" nQ f75 g75)
  (M76:Meth K CG "all_places" f76) (F76:Fun K "all_places" "Grid.all_places" iT f76 g76) (M77:Meth K CJ "where" f77) (F77:Fun K "where" "Job.where" rH f77 g77)
  (M78:Meth K CJ "reads_of" f78) (F78:Fun K "reads_of" "Job.reads_of" iK f78 g78) (M79:Meth K CJ "all_spots" f79) (F79:Fun K "all_spots" "Job.all_spots" gU f79 g79)
  (kCnum:CK K Cnum ["value"]) (kCtake:CK K Ctake ["back","steps"]) (kCrest:CK K Crest ["one","by"]) (kCcho:CK K Ccho ["test","one","other"])
  (kCb0:CK K Cb0 ["one","other"]) (kCb1:CK K Cb1 ["one","other"]) (kCb2:CK K Cb2 ["one","other"]) (kCb3:CK K Cb3 ["one","other"])
  (kCb4:CK K Cb4 ["one","other"]) (kCR:CK K CR ["text","gone"]) (kCG:CK K CG ["sizes","rims"]) (kCJ:CK K CJ ["taken","grid","term","modulus","rounds","first"])
  (e0:FI K Cb1 "__init__" f52) (e1:FI K Cb2 "__init__" f52) (e2:FI K Cb3 "__init__" f52) (e3:FI K Cb4 "__init__" f52)
  (e4:FI K Ctake "inner" f42) (e5:FI K Cb1 "inner" f53) (e6:FI K Cb2 "inner" f53) (e7:FI K Cb3 "inner" f53)
  (e8:FI K Cb4 "inner" f53) (e9:FI K Crest "takes" f43) (e10:FI K Ccho "takes" f43) (e11:FI K Cb0 "takes" f43)
  (e12:FI K Cb1 "takes" f43) (e13:FI K Cb2 "takes" f43) (e14:FI K Cb3 "takes" f43) (e15:FI K Cb4 "takes" f43)
  (e16:FI K Ctake "depth" f44) (e17:FI K Crest "depth" f44) (e18:FI K Ccho "depth" f44) (e19:FI K Cb0 "depth" f44)
  (e20:FI K Cb1 "depth" f44) (e21:FI K Cb2 "depth" f44) (e22:FI K Cb3 "depth" f44) (e23:FI K Cb4 "depth" f44)
  (e24:FI K Ctake "parts" f45) (e25:FI K Crest "parts" f45) (e26:FI K Ccho "parts" f45) (e27:FI K Cb0 "parts" f45)
  (e28:FI K Cb1 "parts" f45) (e29:FI K Cb2 "parts" f45) (e30:FI K Cb3 "parts" f45) (e31:FI K Cb4 "parts" f45)
  (e32:FI K Cb0 "own_fault" f46) (e33:FI K Cb1 "own_fault" f46) (e34:FI K Cb2 "own_fault" f46) (e35:FI K Cb3 "own_fault" f46)
  (e36:FI K Cb4 "own_fault" f46) (nd:[Cnum,Ctake,Crest,Ccho,Cb0,Cb1,Cb2,Cb3,Cb4].Nodup) (ndR:CR∉[Cnum,Ctake,Crest,Ccho,Cb0,Cb1,Cb2,Cb3,Cb4]) (qF:Du K mainGlobals "FIGURES"=some (some (.str "0123456789" tF)))
  (aWd:GN K "WORDS" aW) (lWd:K.lookup aW=some ⟨.type "tuple",odW,.seq #[.str "+" tW1,.str "-" tW2,.str "*" tW3,.str "min" tW4,.str "max" tW5,.str "rest" tW6,.str "?" tW7] nW,slW⟩) (z_isinstance:Du K mainGlobals "isinstance"=some none) (z_int:Du K mainGlobals "int"=some none)
  (z_bool:Du K mainGlobals "bool"=some none) (z_str:Du K mainGlobals "str"=some none) (z_tuple:Du K mainGlobals "tuple"=some none) (z_list:Du K mainGlobals "list"=some none)
  (z_len:Du K mainGlobals "len"=some none) (z_range:Du K mainGlobals "range"=some none) (z_enumerate:Du K mainGlobals "enumerate"=some none) (z_max:Du K mainGlobals "max"=some none)
  (z_min:Du K mainGlobals "min"=some none) (z_sorted:Du K mainGlobals "sorted"=some none) (z_sum:Du K mainGlobals "sum"=some none) (z_set:Du K mainGlobals "set"=some none)
  (z_all:Du K mainGlobals "all"=some none) (z_any:Du K mainGlobals "any"=some none) (z_zip:Du K mainGlobals "zip"=some none) (z_abs:Du K mainGlobals "abs"=some none)
  (z_dict:Du K mainGlobals "dict"=some none) (q_GREATEST_NUMBER:Du K mainGlobals "GREATEST_NUMBER"=some (some (.int 1000000000000 t_GREATEST_NUMBER))) (q_GREATEST_DIVISOR:Du K mainGlobals "GREATEST_DIVISOR"=some (some (.int 1000000000 t_GREATEST_DIVISOR))) (q_GREATEST_BACK:Du K mainGlobals "GREATEST_BACK"=some (some (.int 3 t_GREATEST_BACK)))
  (q_GREATEST_STEP:Du K mainGlobals "GREATEST_STEP"=some (some (.int 9 t_GREATEST_STEP))) (q_MOST_STEPS_terms:Du K mainGlobals "MOST_STEPS_terms"=some (some (.int 3 t_MOST_STEPS_terms))) (q_MOST_DEPTH:Du K mainGlobals "MOST_DEPTH"=some (some (.int 12 t_MOST_DEPTH))) (q_MOST_PARTS:Du K mainGlobals "MOST_PARTS"=some (some (.int 60 t_MOST_PARTS)))
  (q_MOST_TAKES:Du K mainGlobals "MOST_TAKES"=some (some (.int 6 t_MOST_TAKES))) (q_GREATEST_MODULUS:Du K mainGlobals "GREATEST_MODULUS"=some (some (.int 1000000000 t_GREATEST_MODULUS))) (q_MOST_ROUNDS:Du K mainGlobals "MOST_ROUNDS"=some (some (.int 12 t_MOST_ROUNDS))) (q_MOST_SPOTS:Du K mainGlobals "MOST_SPOTS"=some (some (.int 120 t_MOST_SPOTS)))
  (q_GREATEST_FIXED:Du K mainGlobals "GREATEST_FIXED"=some (some (.int 1000000000 t_GREATEST_FIXED))) (q_MOST_LINES:Du K mainGlobals "MOST_LINES"=some (some (.int 3 t_MOST_LINES))) (q_GREATEST_SIZE:Du K mainGlobals "GREATEST_SIZE"=some (some (.int 9 t_GREATEST_SIZE))) (q_MOST_PLACES:Du K mainGlobals "MOST_PLACES"=some (some (.int 40 t_MOST_PLACES)))
  (q_MOST_FIGURES:Du K mainGlobals "MOST_FIGURES"=some (some (.int 13 t_MOST_FIGURES))) (q_MOST_STEPS_term_texts:Du K mainGlobals "MOST_STEPS_term_texts"=some (some (.int 3 t_MOST_STEPS_term_texts))) (q_MOST_WITHIN:Du K mainGlobals "MOST_WITHIN"=some (some (.int 12 t_MOST_WITHIN)))
  :∃fd:FuncData,(∀(s:Shared) (v:Value),BindsTo s fd ⟨[v],[]⟩ [("_law_script",v)])/\∀base:Heap,K.In base->base.Ns mainGlobals mg->bB l.prog w K mg base CX0 31 fa fd ["_law_script"] (spV (aN0 K)):=by
 have m:∀{n:Str} {f:Addr},GN K n f->mg n=some (.ref f):=λh=>Fj X G h;have mn:∀{n:Str},Du K mainGlobals n=some none->mg n=none:=λh=>W.mg_none_of X G h;have e:=hfa.symm.trans (m a32);cases e;have T:Txt mg:=⟨mn z_isinstance,mn z_int,mn z_bool,mn z_str,mn z_tuple,mn z_list,mn z_len,mn z_range,mn z_enumerate,mn z_max,mn z_min,mn z_sorted,mn z_sum,mn z_set,mn z_all,mn z_any,mn z_zip,mn z_abs,mn z_dict,⟨_,Fj X G q_GREATEST_NUMBER⟩,⟨_,Fj X G q_GREATEST_DIVISOR⟩,⟨_,Fj X G q_GREATEST_BACK⟩,⟨_,Fj X G q_GREATEST_STEP⟩,⟨_,Fj X G q_MOST_STEPS_terms⟩,⟨_,Fj X G q_MOST_DEPTH⟩,⟨_,Fj X G q_MOST_PARTS⟩,⟨_,Fj X G q_MOST_TAKES⟩,⟨_,Fj X G q_GREATEST_MODULUS⟩,⟨_,Fj X G q_MOST_ROUNDS⟩,⟨_,Fj X G q_MOST_SPOTS⟩,⟨_,Fj X G q_GREATEST_FIXED⟩,⟨_,Fj X G q_MOST_LINES⟩,⟨_,Fj X G q_GREATEST_SIZE⟩,⟨_,Fj X G q_MOST_PLACES⟩,⟨_,Fj X G q_MOST_FIGURES⟩,⟨_,Fj X G q_MOST_STEPS_term_texts⟩,⟨_,Fj X G q_MOST_WITHIN⟩⟩;have T2:KR.Txt K mg:=⟨T.isinstance,T.int,T.tuple,T.len,T.any,T.str,T.c_MOST_FIGURES,T.c_MOST_STEPS_term_texts,T.c_MOST_WITHIN⟩;have F0:=F32;obtain⟨⟨_,_,y1,y2,y3,y4,y5,y6,_,rfl,_⟩,_⟩:=F0;refine⟨W.fnOf "law" "law" (jU zL) (fU zL) (aC zL) .none y1 y2 y3 y4 y5 y6,λs v=> .of_eq rfl,λbase _ _=>?_⟩;have cal:∀{CX:CXT} {k:Nat} {f:Addr} {fd:FuncData} {n x qn:Str} {st:Stmt} {ps:List Str} {sp:Sp},Fun K x qn st f fd->bB l.prog w K mg base CX k f fd ps sp->GN K n f->Binds K fd ps []->Cal l.prog w K mg base CX k n ps sp:=λF h a b=>⟨_,_,h,m a,F.kp,b⟩;let N:Cn:=⟨Cnum,Ctake,Crest,Ccho,λk=>match k with|0=>Cb0|1=>Cb1|2=>Cb2|3=>Cb3|4=>Cb4⟩;have nd:(zH N).Nodup:=nd;have c5:∀k,CK K (N.bin k) ["one","other"]:=λk=>by
  match k with
  |0=>exact kCb0
  |1=>exact kCb1
  |2=>exact kCb2
  |3=>exact kCb3
  |4=>exact kCb4
 have nR:aFn N CR:=λt e=>ndR (e▸Bn (aIb N t));have cl:∀C,IsC N C->Cls K C:=λC hC=>by
  rcases hC with rfl|rfl|rfl|rfl|⟨k,rfl⟩
  ·exact kCnum.c
  ·exact kCtake.c
  ·exact kCrest.c
  ·exact kCcho.c
  ·exact(c5 k).c
 have D_i:kW l.prog w K mg base N 1 "inner" (iW N):=aKr nd F42 F53 F55 F58 cl kCrest.fl kCcho.fl (λk=>(c5 k).fl) M42 (mth M42 e4) M55 M58 (λk=>by
  match k with
  |0=>exact M53
  |1=>exact(mth M53 e5)
  |2=>exact(mth M53 e6)
  |3=>exact(mth M53 e7)
  |4=>exact(mth M53 e8))
 have D_t:=aBs (P:=l.prog) (w:=w) (base:=base) nd F43 F50 cl kCtake.fl (λC hC ne=>by
  rcases hC with rfl|rfl|rfl|rfl|⟨k,rfl⟩
  ·exact M43
  ·exact absurd rfl ne
  ·exact(mth M43 e9)
  ·exact(mth M43 e10)
  ·match k with
   |0=>exact(mth M43 e11)
   |1=>exact(mth M43 e12)
   |2=>exact(mth M43 e13)
   |3=>exact(mth M43 e14)
   |4=>exact(mth M43 e15)) M50 D_i T 8
 have D_d:=aCi (P:=l.prog) (w:=w) (base:=base) F44 cl (λC hC=>by
  rcases hC with rfl|rfl|rfl|rfl|⟨k,rfl⟩
  ·exact M44
  ·exact(mth M44 e16)
  ·exact(mth M44 e17)
  ·exact(mth M44 e18)
  ·match k with
   |0=>exact(mth M44 e19)
   |1=>exact(mth M44 e20)
   |2=>exact(mth M44 e21)
   |3=>exact(mth M44 e22)
   |4=>exact(mth M44 e23)) D_i T 8
 have D_p:=aCc (P:=l.prog) (w:=w) (base:=base) F45 cl (λC hC=>by
  rcases hC with rfl|rfl|rfl|rfl|⟨k,rfl⟩
  ·exact M45
  ·exact(mth M45 e24)
  ·exact(mth M45 e25)
  ·exact(mth M45 e26)
  ·match k with
   |0=>exact(mth M45 e27)
   |1=>exact(mth M45 e28)
   |2=>exact(mth M45 e29)
   |3=>exact(mth M45 e30)
   |4=>exact(mth M45 e31)) D_i T 8
 have c10:=cal F10 (aLy F10 T) a10 (fb1 "thing" F10);have c11:=cal F11 (aK0 F11 c10) a11 (fb3 "thing" "least" "most" F11);have c15:=cal F15 (aQg F15 c11 T) a15 (fb1 "thing" F15);have D_f:kW l.prog w K mg base N 4 "own_fault" (rN N):=aKq nd F46 F48 F51 F56 cl kCnum.fl kCtake.fl kCrest.fl c11 c15 T M48 M51 M56 M46 (λk=>by
  match k with
  |0=>exact(mth M46 e32)
  |1=>exact(mth M46 e33)
  |2=>exact(mth M46 e34)
  |3=>exact(mth M46 e35)
  |4=>exact(mth M46 e36))
 have c17:=aQe F17 (m a17) D_i D_f 8;have c16:=cal F16 (aG7 F16 D_t T) a16 (fb1 "term" F16);have c18:=cal F18 (aKb F18 (by decide) c17 c16 D_t D_d D_p T) a18 (fb1 "term" F18);have R5:∀k,Mkr l.prog w K mg base (N.bin k) (bnm k) ["self","one","other"] (aCy K "one" "other"):=λk=>by
  match k with
  |0=>exact⟨⟨_,_,rC F52,mkO kCb0 M52,m aCb0,(fb3 "self" "one" "other" F52)⟩⟩
  |1=>exact⟨⟨_,_,rC F52,mkO kCb1 (mth M52 e0),m aCb1,(fb3 "self" "one" "other" F52)⟩⟩
  |2=>exact⟨⟨_,_,rC F52,mkO kCb2 (mth M52 e1),m aCb2,(fb3 "self" "one" "other" F52)⟩⟩
  |3=>exact⟨⟨_,_,rC F52,mkO kCb3 (mth M52 e2),m aCb3,(fb3 "self" "one" "other" F52)⟩⟩
  |4=>exact⟨⟨_,_,rC F52,mkO kCb4 (mth M52 e3),m aCb4,(fb3 "self" "one" "other" F52)⟩⟩
 have M:aEs l.prog w K mg base N:=⟨⟨⟨_,_,aMi F47,mkO kCnum M47,m aCnum,(fb2 "self" "value" F47)⟩⟩,⟨⟨_,_,aL5 F49,mkO kCtake M49,m aCtake,(fb3 "self" "back" "steps" F49)⟩⟩,⟨⟨_,_,aM5 F54,mkO kCrest M54,m aCrest,(fb3 "self" "one" "by" F54)⟩⟩,⟨⟨_,_,aNz F57,mkO kCcho M57,m aCcho,(fb4 "self" "test" "one" "other" F57)⟩⟩,R5,kCnum.cf,kCtake.cf,kCrest.cf,kCcho.cf,λk=>(c5 k).cf⟩;have Wd:Words K aW:=λH=> .inr ⟨_,_,_,lWd,rfl,rfl,(by show 7<=sizeLine;decide),.cons ⟨_,rfl⟩ (.cons ⟨_,rfl⟩ (.cons ⟨_,rfl⟩ (.cons ⟨_,rfl⟩ (.cons ⟨_,rfl⟩ (.cons ⟨_,rfl⟩ (.cons ⟨_,rfl⟩ .nil))))))⟩;have D_ahead:=iU (P:=l.prog) (w:=w) (mg:=mg) (base:=base) kCR.c M60 (fb1 "self" F60) (aMk F60 kCR.cf);have D_pass:=iU (P:=l.prog) (w:=w) (mg:=mg) (base:=base) kCR.c M61 (fb2 "self" "signs" F61) (aR7 F61 kCR.cf D_ahead);have D_fig:=iU (P:=l.prog) (w:=w) (mg:=mg) (base:=base) kCR.c M62 (fb1 "self" F62) (aWp F62 D_ahead (Fj X G qF));have D_figs:=iU (P:=l.prog) (w:=w) (mg:=mg) (base:=base) kCR.c M63 (fb1 "self" F63) (aR9 F63 kCR.cf D_ahead D_pass D_fig T2);have D_num:=iU (P:=l.prog) (w:=w) (mg:=mg) (base:=base) kCR.c M64 (fb1 "self" F64) (aUz F64 D_ahead D_pass D_figs);have D_rtake:=iU (P:=l.prog) (w:=w) (mg:=mg) (base:=base) kCR.c M65 (fb1 "self" F65) (aO2 F65 D_ahead D_pass D_num M.take M.c2 T2);have D_word:=iU (P:=l.prog) (w:=w) (mg:=mg) (base:=base) kCR.c M66 (fb1 "self" F66) (aQz F66 D_ahead D_pass (m aWd) Wd T2);have c40:=cal F40 (aKd F40 M) a40 (fb3 "word" "one" "other" F40);have D_part:=aEw kCR.c nR M T2 F67 F68 F69 M67 M68 M69 D_ahead D_pass D_figs D_num D_rtake D_word c40 8;have R_rd:Mkr l.prog w K mg base CR "TermReader" ["self","text"] (aVh K):=⟨⟨_,_,aKs F59,mkO kCR M59,m aCR,(fb2 "self" "text" F59)⟩⟩;have c41:=cal F41 (aLw (aGo F41 R_rd kCR.cf nR D_part T2)) a41 (fb1 "text" F41);have c19:=cal F19 (aO9 (k:=15) F19 c41 c18) a19 (fb1 "text" F19);have c12:=cal F12 (aNg F12 c11 T) a12 (fb1 "thing" F12);have c13:=cal F13 (aQj F13) a13 (fb1 "sizes" F13);have c14:=cal F14 (aM9 F14 c11 c12 T) a14 (fb2 "sizes" "rims" F14);have c20:=cal F20 (aMq F20 c11 T) a20 (fb3 "thing" "many" "modulus" F20);have c21:=cal F21 (aGw F21 c20 T) a21 (fb4 "thing" "deep" "many" "modulus" F21);have D_lines:=iU (P:=l.prog) (w:=w) (mg:=mg) (base:=base) kCG.c M71 (fb1 "self" F71) (aOo F71 kCG.fl T);have D_many:=iU (P:=l.prog) (w:=w) (mg:=mg) (base:=base) kCG.c M72 (fb1 "self" F72) (aQm F72 kCG.fl c13);have D_deep:=iU (P:=l.prog) (w:=w) (mg:=mg) (base:=base) kCJ.c M74 (fb1 "self" F74) (aR0 F74 ⟨kCJ.c,λf hf=>kCJ.na f (by rw [List.mem_singleton.mp hf];exact Ae)⟩ T);have M_Grid:MkU l.prog w K mg base 5 CG "Grid" ["self","sizes","rims"] aGz:=⟨⟨_,_,aOe F70 kCG.fl c14 c13 T,mkO kCG M70,m aCG,(fb3 "self" "sizes" "rims" F70)⟩⟩;have M_Job:MkU l.prog w K mg base 14 CJ "Job" ["self","grid","term","modulus","rounds","first"] (aHs N CG):=⟨⟨_,_,aL3 F73 kCJ.fl c18 c16 c11 c21 D_t D_lines D_many D_deep T,mkO kCJ M73,m aCJ,(fb6 "self" "grid" "term" "modulus" "rounds" "first" F73)⟩⟩;have c22:=cal F22 (aSe F22 T) a22 (fb2 "_law_script" "_law_k" F22);have c23:=cal F23 (aMj F23) a23 (fb2 "_law_cell_here" "_law_k" F23);have c24:=cal F24 (aNv F24 c23) a24 (fb2 "_law_cell_here" "_law_k" F24);have c25:=cal F25 (aQq F25 c24) a25 (fb2 "_law_well_here" "_law_most" F25);have c26:=cal F26 (aRk F26 c22 T) a26 (fb2 "_law_script" "_law_k" F26);have c27:=cal F27 (aLo F27 c25 T) a27 (fb1 "_law_well_here" F27);have c28:=cal F28 (aPt F28 c25 T) a28 (fb2 "_law_well_here" "_law_many" F28);have c29:=cal F29 (aOt F29 c25 T) a29 (fb2 "_law_well_here" "_law_takes" F29);have c30:=cal F30 (aNp F30 c26 c27 c28 c25 c29 T) a30 (fb3 "_law_script" "_law_k" "_law_most" F30);have c31:=cal F31 (aRq F31 M_Grid M_Job c19 T) a31 (fb1 "_law_world_here" F31);have c34:=cal F34 (aV9 F34) a34 (fb2 "size" "number" F34);have c33:=cal F33 (aUw F33 c34) a33 (fb3 "rim" "size" "number" F33);have D_bes:=iU (P:=l.prog) (w:=w) (mg:=mg) (base:=base) kCG.c M75 (fb3 "self" "place" "steps" F75) (aUd F75 kCG.fl c33 T);have D_where:=iU (P:=l.prog) (w:=w) (mg:=mg) (base:=base) kCJ.c M77 (fb3 "self" "spot" "take" F77) (aM8 (N:=N) F77 kCJ.fl D_bes T);have D_reads:=iU (P:=l.prog) (w:=w) (mg:=mg) (base:=base) kCJ.c M78 (fb2 "self" "spot" F78) (aPk F78 kCJ.fl D_where T);have c36:=cal F36 (aNl F36 D_reads T) a36 (fb2 "job" "spot" F36);have c35:=cal F35 (aRg F35 T) a35 (fb2 "places" "size" F35);have D_allp:=iU (P:=l.prog) (w:=w) (mg:=mg) (base:=base) kCG.c M76 (fb1 "self" F76) (aRy F76 kCG.fl c35 T);have D_alls:=iU (P:=l.prog) (w:=w) (mg:=mg) (base:=base) kCJ.c M79 (fb1 "self" F79) (aQo (N:=N) F79 kCJ.fl D_allp T);have c37:=cal F37 (aIe F37 D_alls c36 T) a37 (fb2 "job" "spot" F37);have c38:=cal F38 (aOd F38 T) a38 (fb3 "_law_x" "_law_size" "_law_rim" F38);have c39:=cal F39 (aLl F39 c38 T) a39 (fb2 "_law_world_here" "_law_spot" F39);exact aUa F32 c30 c31 c39 c36 c37 T
def aU3 {l:W.OpenLaw} {q:Program} {loose:List Str} {XP:(Str->Option Value)->Heap->Prop} {YP:World->Heap->Prop} {d:DefRec} {K:Params->W.Frag} (hn:l.most=some 63) (hdf:d.params.defaults=[])
  (hY:∀(w:World) (h:Heap),YP w h->(K w.params).In h)
  (F:∀(w:World) (mg:Str->Option Value) (fa:Addr) (h:Heap),(K w.params).In h->h.Ns mainGlobals mg->mg d.name=some (.ref fa)->
   ∃fd:FuncData,(∀(s:Shared) (u:Value),BindsTo s fd ⟨[u],[]⟩ [("_law_script",u)])/\∀base:Heap,(K w.params).In base->base.Ns mainGlobals mg->bB l.prog w (K w.params) mg base CX0 31 fa fd ["_law_script"] (spV (aN0 (K w.params)))):
  W.WalkO q loose XP YP l.row.toRowW d [] (λf vs=>Pr f vs):=
 L2.aR2 (n:=63) (k:=31) (x:="_law_script") (CX:=λ_=>CX0) (sp:=λw=>spV (aN0 (K w.params))) hn (by decide) hdf ⟨rfl,by decide,by decide⟩ hY F (λ_ _ _ _ _ _ hS=>aVj hS) λ_ _ _ _ _ z=>z
end Q
structure PySem.W.Fast:Prop where
 (tw8617071987157213090 tw7690327626574801928 tw16331898515208018683 tw5940403500109112682 tw9237677392261951488 tw15838957255771123992 tw12835597264323675712 tw7142215770012370490 tw1195025504835236730 tw6685833356984905612 tw15624963597810753476 tw12949030306313741295 tw13160907362293254252 tw616932026961811926 tw15576416586239264181 tw12205563939203681288 tw16781963048371163446 tw11957088733260228543 tw6709987319581375246 tw9157203614543412295 tw17537712605179065899 tw5815965136372606145 tw17026635577360341488 tw3349464381600655690 tw13951704011220338281 tw3561855311904790266 tw16353138739473160017 tw11958261513984589573 tw9595235049672540661 tw13391580579365123414 tw8811034921557282533 tw6258342838660075019 tw14001743938148182707 tw2377157923659861382 tw15539322447176487567 tw5626481448906807584 tw15971832910396623327 tw8176841297218181705 tw17532545619246919873 tw11185569658169742271 tw9279117897747538548 tw12101933816481604779 tw11667848052945992642 tw4252694370655632035 tw85514437947488372 tw538988921526410941 tw15000598704122481737 tw8138303089967487782 tw16252283281114620799 tw876248935721475351 tw15271639011677827861 tw17407993671878343306 tw15146107710903423196 tw13115660259523625343 tw4572538277201255696 tw14203043489304920725 tw13060589748118778460 tw8226892099754521393 tw123416413598786246 tw1591615146274693884 tw9864696799891503504 tw8606782754077281363 tw18249818616562603465 tw13079169557979362876 tw16707871194648998701 tw11416188981015134165 tw14085044098311930479 tw5160129538151364979 tw2047332119772325099 tw7389569330525797090 tw12373813852538573885 tw14681051895629369662 tw17246292468795434826 tw9995857270607078515 tw9823125671261848873 tw18129297903014020887 tw9053994552191770002 tw16859735738410999057 tw7154128665170158951 tw2824875302424403939 tw16412971454317000321 tw11829167799319517322 tw3562084501152821218 tw8933559830555217013 tw7832443788905292086 tw14342002469185434820 tw43692788401556939 tw1780607909767029067 tw17051867263967471518 tw13097154993726026613 tw8628752075972332775 tw5792833896480894090 tw5558561458293949939 tw15512858516571065785 tw7485153205368783076 tw14890930341795411758 tw9862598269766012973 tw3808831782694919295 tw16005507362399046091 tw16539874255387665477 tw1773858530615472513 tw13850324348764202557 tw945062233319698152 tw8704846186111148558 tw12910864287785365417 tw17052984422032715696 tw4791721257702293707 tw15160174753699738741 tw16177409073767426942 tw14676206626959247541 tw11760892142898001128 tw7643356003529102944 tw4388193459191951826 tw17252261274738392026 tw12751207063971425089 tw9069855608701004872 tw12819020193703711154 tw6949429964566003256 tw13196788646423955888 tw14977692562457027105 tw10580370042660633473 tw18231447093901930591 tw18120805402390245055 tw7447665038650271209 tw6818858088182202180 tw17391415586144797257 tw9418133179366270994 tw5975006991174937229 tw10396923186878461960 tw8490016050952593321 tw12878413767628512910 tw10679238898514565098 tw2495252010846598689 tw732499439620520698 tw640342552779013876 tw5747466021812099237 tw5350997227611523807 tw725317214858547736 tw12614054694209199774 tw14102669621420913927 tw16186191699146117329 tw4061901113636208849 tw4628079312304347466 tw13203008354994887624 tw6862099426309670916 tw2156002140723892048 tw873673757956616120 tw16513857162899971960 tw2721837317910816302 tw8275421833838664285 tw15764383736028880011 tw14581695020694543281 tw13448687349200660527 tw3365476118868889653 tw11646949998334629336 tw5040016945773746691 tw11808596581861053408 tw3953779091776672851 tw15367806070263747579 tw9573611503647534109 tw12334608455894547256 tw3783708561437980486 tw985968879709787003 tw5710332462990055386 tw1303054440207339217 tw3684407632379093747 tw15330843392403200650 tw9740332964953828550 tw18389168528643656433 tw6265244064674994347 tw9547471357489638688 tw14953742520558107873 tw10866258197340990291 tw9788310213305363568 tw11915007864295391454 tw16798873274019787942 tw762675826313641152 tw17174139480833985421 tw8942644594718707570 tw12363438440152611460 tw7919523250289178588 tw16770212725985223840 tw16340852898106850930 tw11851446132126511784 tw16817149500095749239 tw10628785946527237749 tw3758932551655529139 tw4894889052809693963 tw2026968634471003662 tw3730406353932638763 tw724756189429856420 tw2237812596301618412 tw2873216310930185107 tw2328639439169038173 tw9187264002543777770 tw15232132113414294397 tw5460929422658474256 tw7708651479903198782 tw729413197481306702 tw2793616418113674408 tw7405873427343678645 tw553408951103350131 tw6442206526522809272 tw16882001421899401710 tw8586711015933564029 tw8365202222800903041 tw9888313763003942143 tw14145991594481710039 tw4099184897941757581 tw8743489604670020669 tw18368726947674303107 tw6359684068669577353 tw2457977678407101100 tw17742711807090350630 tw11730268246786062444 tw7564088245469790146 tw7628182059966984825 tw7436004566601976782 tw15385311930778556834 tw14629381191956492441 tw13313044360463786901 tw15351167237872437285 tw17119175309666694004 tw15126535089874611156 tw13548153349362618433 tw12889812472541369840 tw13199633616831609428 tw11015794007876774675 tw6550120752362038530 tw6944328665691657097 tw18398397070391147614 tw10020992205605372906 tw13534003886274664505 tw16511125596651249352 tw5065639040303780131 tw6340238879466440888 tw8733927235195533701 tw11653564419087154550 tw881927208884477044 tw1931829364363177849 tw13249101689016283338 tw6672516926526008493 tw1365262813548308147 tw16487430210591993540 tw5849494440073160055 tw17828924243055051871 tw18305558092691113782 tw2478373074759365185 tw17198313420284414950 tw1772223681835820154 tw4631904351402946468 tw13964503573629895730 tw12555480320315403727 tw16864808435724511400 tw7257401539653226359 tw3126362252971265364 tw8515009749645995212 tw4457008150174380051 tw2370382481699503538 tw8562968218046056336 tw8671189845749031906 tw14604650023119216461 tw2945145919524144161 tw7070720114411936842 tw1192715338821343401 tw7048022897353844711 tw5918901859956831079 tw15621745635650856553 tw15306876969231921752 tw10688513893026912052 tw12986525073920294521 tw11476578878139456328 tw371065541585203599 tw9433754610785770270 tw14674131881517602335 tw10904980704934371465 tw17822259298625908627 tw799916823354054412 tw7291685310085064939 tw14840400416076164785 tw11124196144402729686 tw2312463646427670057 tw1759196684618455881 tw7476301565268521567 tw6995472152779081104 tw2071790756228717232 tw3495536545611873625 tw2431566977691085652 tw11985874065370035741 tw9374395988687234516 tw3253918738741222830 tw144808065532129050 tw16073560712276255021 tw8363539467549045203 tw76835633905261731 tw16051208290514976218 tw1197684287644167258 tw6192868441849213350 tw8331127820088879300 tw11064131986578080930 tw18142080518208222969 tw15292972085071528166 tw16434360963041874175 tw10495942472495154871 tw6822250485242671066 tw4192776582293497395 tw14224885101630185434 tw14015884893802969682 tw11201370545296615944 tw9665380751961963209 tw9997421493336961759 tw1440795298392813339 tw11635303099164283881 tw9433384071518744197 tw6470448524401839128 tw15934494333680074759 tw2379029820666531367 tw12153772196345799689 tw8711242429054079029 tw18340674152776278583 tw17015545115685542762 tw18375606002362618675 tw5439282266698057279 tw6083507789077044049 tw12554658423067495782 tw8146804557253955421 tw13909363363751405942 tw5775370835375248134 tw16615491472504342760 tw14595022735120455519 tw9381485371081937574 tw17487066921120025124 tw15850852250200506828 tw12361623064806658504 tw13768151620431237361 tw9671046416631862264 tw8130171206377513699 tw5583621012831244112 tw947354955825149763 tw6847926719709843390 tw4054614009138047056 tw2374269318469879240 tw13678678228189389344 tw11345626593464454232 tw9298617074524033133 tw398765750366453357 tw3875804941904076591 tw11853665712991037869 tw808284772633012488 tw16285582907869940943 tw11564338211168176858 tw189517772031156981 tw11855099922216991294 tw12082054731384362367 tw7619533220521837978 tw6714069692436460896 tw4734678647298380002 tw16102805437736306316 tw13515658688124918795 tw11283770703451104090 tw7351167495350953076 tw4697715486620346255 tw16907099520428919393 tw7443093861830269269 tw5746781216999069320 tw4058912051059336199 tw2177678108982420437 tw10010255137175850705 tw13957854711628786046 tw18155063442016823571 tw9329887315133171679 tw9282291388198743338 tw6836850587666954982 tw12458521284323306237 tw1379814702215187105 tw6670457779429257341 tw1644748284219746482 tw6032247976775269690 tw5836577736579173811 tw3809512399685513675 tw3282076974939276067 tw17715254908447166380 tw17766918431419316223 tw14219389840398546531 tw16570605731360334995 tw10409654764736102114 tw8023028591137360270 tw5386329220095466889 tw12295193712477258916 tw13558843767935013112 tw2984533118624120285 tw17235196629644380138 tw5791333527302172401 tw14462992686031393319 tw11191015208960440526 tw6390095083398486936 tw3707758699991986663 tw2222423316448529407 tw16315680934266872843 tw9513410574310380339 tw11368081929633552463 tw9818563276150582449 tw17388961667391197897 tw6073562664769230239 tw4344294157801078724 tw12274080131575989943 tw159841110394585440 tw12323855956136600910 tw10305859764615159897 tw876374413431305402 tw17935288965249285696 tw15085711505108196658 tw1472618827205097898 tw14269235649998723573 tw10049224618099797272 tw3408313488240230203 tw9783083354238752196 tw5144999516560790480 tw5110379982073770023 tw4480504141406301469 tw18139541152214605165 tw17993684359233030484 tw4654678782308797695 tw17035853779668875695 tw12462350238162229701 tw5217207488894324012 tw16785318909845397229 tw4863049784079169106 tw14032294423651508479 tw8345058325259328680 tw5090949801362688749 tw11141253289787200012 tw9875846365326554826 tw4846061967455255060 tw6195581927635484615 tw7501478435463610237 tw8962646407782205364 tw7027823104190650491 tw17542350749097216714 tw10551518090107891237 tw17773072824221027299 tw14624852374221791123 tw4660056225805394441 tw16657425658656854260 tw12864366701941362681 tw9761563915028894887 tw13557518849094798202 tw5931332962495836729 tw5833866937453285455 tw15242014675046675022 tw13144322284483678816 tw7128603147957056534 tw3193451367007074352 tw17860134555890735162 tw1394053607383918350 tw11748244434588311984 tw11248470855384382990 tw9226530736269629453 tw3836962853960464785 tw18095311327271124975 tw17738316306591994581 tw16381911186238722100 tw17301991630102170189 tw6086799793280874119 tw544145835486826578 tw16074901394652872089 tw15320110252960971206 tw9997057101407335585 tw10655722148933982284 tw6879771831916847120 tw16323360585188080480 tw3686587416950204207:True)
open PySem PySem.W PyProof.Rows
set_option maxRecDepth 100000 in
set_option maxHeartbeats 0 in
theorem PySem.Challenge.cw_slanttiles_k32_who_reads_a_spot_holds : PySem.Challenge.rw_slanttiles_k32_who_reads_a_spot.Holds := by
  w_on; o_law; k_head; (case hw => w_witness2)
  k_fill
  refine Q.aU3 (l := PySem.Challenge.rw_slanttiles_k32_who_reads_a_spot) rfl rfl (fun w h Y => PySem.W.kIn_of Y) ?F
  case F =>
    intro w mg fa h KY G hmg
    refine' Q.aUu KY G hmg ?aCnum ?aCtake ?aCrest ?aCcho ?aCb0 ?aCb1 ?aCb2 ?aCb3 ?aCb4 ?aCR ?aCG ?aCJ ?a10 ?F10 ?a11 ?F11 ?a12 ?F12 ?a13 ?F13 ?a14 ?F14 ?a15 ?F15 ?a16 ?F16 ?a17 ?F17 ?a18 ?F18 ?a19 ?F19 ?a20 ?F20 ?a21 ?F21 ?a22 ?F22 ?a23 ?F23 ?a24 ?F24 ?a25 ?F25 ?a26 ?F26 ?a27 ?F27 ?a28 ?F28 ?a29 ?F29 ?a30 ?F30 ?a31 ?F31 ?a32 ?F32 ?a33 ?F33 ?a34 ?F34 ?a35 ?F35 ?a36 ?F36 ?a37 ?F37 ?a38 ?F38 ?a39 ?F39 ?a40 ?F40 ?a41 ?F41 ?M42 ?F42 ?M43 ?F43 ?M44 ?F44 ?M45 ?F45 ?M46 ?F46 ?M47 ?F47 ?M48 ?F48 ?M49 ?F49 ?M50 ?F50 ?M51 ?F51 ?M52 ?F52 ?M53 ?F53 ?M54 ?F54 ?M55 ?F55 ?M56 ?F56 ?M57 ?F57 ?M58 ?F58 ?M59 ?F59 ?M60 ?F60 ?M61 ?F61 ?M62 ?F62 ?M63 ?F63 ?M64 ?F64 ?M65 ?F65 ?M66 ?F66 ?M67 ?F67 ?M68 ?F68 ?M69 ?F69 ?M70 ?F70 ?M71 ?F71 ?M72 ?F72 ?M73 ?F73 ?M74 ?F74 ?M75 ?F75 ?M76 ?F76 ?M77 ?F77 ?M78 ?F78 ?M79 ?F79 ?kCnum ?kCtake ?kCrest ?kCcho ?kCb0 ?kCb1 ?kCb2 ?kCb3 ?kCb4 ?kCR ?kCG ?kCJ ?e0 ?e1 ?e2 ?e3 ?e4 ?e5 ?e6 ?e7 ?e8 ?e9 ?e10 ?e11 ?e12 ?e13 ?e14 ?e15 ?e16 ?e17 ?e18 ?e19 ?e20 ?e21 ?e22 ?e23 ?e24 ?e25 ?e26 ?e27 ?e28 ?e29 ?e30 ?e31 ?e32 ?e33 ?e34 ?e35 ?e36 ?nd ?ndR ?qF ?aWd ?lWd ?z_isinstance ?z_int ?z_bool ?z_str ?z_tuple ?z_list ?z_len ?z_range ?z_enumerate ?z_max ?z_min ?z_sorted ?z_sum ?z_set ?z_all ?z_any ?z_zip ?z_abs ?z_dict ?q_GREATEST_NUMBER ?q_GREATEST_DIVISOR ?q_GREATEST_BACK ?q_GREATEST_STEP ?q_MOST_STEPS_terms ?q_MOST_DEPTH ?q_MOST_PARTS ?q_MOST_TAKES ?q_GREATEST_MODULUS ?q_MOST_ROUNDS ?q_MOST_SPOTS ?q_GREATEST_FIXED ?q_MOST_LINES ?q_GREATEST_SIZE ?q_MOST_PLACES ?q_MOST_FIGURES ?q_MOST_STEPS_term_texts ?q_MOST_WITHIN
    case aCnum | aCtake | aCrest | aCcho | aCb0 | aCb1 | aCb2 | aCb3 | aCb4 | aCR | aCG | aCJ | a10 | a11 | a12 | a13 | a14 | a15 | a16 | a17 | a18 | a19 | a20 | a21 | a22 | a23 | a24 | a25 | a26 | a27 | a28 | a29 | a30 | a31 | a32 | a33 | a34 | a35 | a36 | a37 | a38 | a39 | a40 | a41 | e0 | e1 | e2 | e3 | e4 | e5 | e6 | e7 | e8 | e9 | e10 | e11 | e12 | e13 | e14 | e15 | e16 | e17 | e18 | e19 | e20 | e21 | e22 | e23 | e24 | e25 | e26 | e27 | e28 | e29 | e30 | e31 | e32 | e33 | e34 | e35 | e36 | aWd => change _ = _; k_is
    case M42 | M43 | M44 | M45 | M46 | M47 | M48 | M49 | M50 | M51 | M52 | M53 | M54 | M55 | M56 | M57 | M58 | M59 | M60 | M61 | M62 | M63 | M64 | M65 | M66 | M67 | M68 | M69 | M70 | M71 | M72 | M73 | M74 | M75 | M76 | M77 | M78 | M79 => exact ⟨by k_is, by k_is, by k_is⟩
    case kCnum => exact ⟨⟨by k_is, by k_is, by k_is, by k_is⟩, Q.naS (by k_is) Q.na0, by k_is, by k_is⟩
    case kCtake | kCrest | kCb0 | kCb1 | kCb2 | kCb3 | kCb4 | kCR | kCG => exact ⟨⟨by k_is, by k_is, by k_is, by k_is⟩, Q.naS (by k_is) (Q.naS (by k_is) Q.na0), by k_is, by k_is⟩
    case kCcho => exact ⟨⟨by k_is, by k_is, by k_is, by k_is⟩, Q.naS (by k_is) (Q.naS (by k_is) (Q.naS (by k_is) Q.na0)), by k_is, by k_is⟩
    case kCJ => exact ⟨⟨by k_is, by k_is, by k_is, by k_is⟩, Q.naS (by k_is) (Q.naS (by k_is) (Q.naS (by k_is) (Q.naS (by k_is) (Q.naS (by k_is) (Q.naS (by k_is) Q.na0))))), by k_is, by k_is⟩
    case nd | ndR => decide
    case qF | lWd | z_isinstance | z_int | z_bool | z_str | z_tuple | z_list | z_len | z_range | z_enumerate | z_max | z_min | z_sorted | z_sum | z_set | z_all | z_any | z_zip | z_abs | z_dict | q_GREATEST_NUMBER | q_GREATEST_DIVISOR | q_GREATEST_BACK | q_GREATEST_STEP | q_MOST_STEPS_terms | q_MOST_DEPTH | q_MOST_PARTS | q_MOST_TAKES | q_GREATEST_MODULUS | q_MOST_ROUNDS | q_MOST_SPOTS | q_GREATEST_FIXED | q_MOST_LINES | q_GREATEST_SIZE | q_MOST_PLACES | q_MOST_FIGURES | q_MOST_STEPS_term_texts | q_MOST_WITHIN => k_is
    case F10 | F11 | F12 | F13 | F14 | F15 | F16 | F17 | F18 | F19 | F20 | F21 | F22 | F23 | F24 | F25 | F26 | F27 | F28 | F29 | F30 | F31 | F32 | F33 | F34 | F35 | F36 | F37 | F38 | F39 | F40 | F41 | F42 | F43 | F44 | F45 | F46 | F47 | F48 | F49 | F50 | F51 | F52 | F53 | F54 | F55 | F56 | F57 | F58 | F59 | F60 | F61 | F62 | F63 | F64 | F65 | F66 | F67 | F68 | F69 | F70 | F71 | F72 | F73 | F74 | F75 | F76 | F77 | F78 | F79 => exact L2.aUi (by k_is) (by k_is) (by k_is)


