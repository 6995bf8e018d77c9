"""Pairedaway: signs that cancel in pairs."""
