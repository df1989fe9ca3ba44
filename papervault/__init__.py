"""Papervault: answers that come with papers."""
