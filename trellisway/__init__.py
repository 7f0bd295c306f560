"""Trellisway: words sent longer, heard badly, told again."""
