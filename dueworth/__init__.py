"""Dueworth: what deeds that share their jars must be paid ahead."""
